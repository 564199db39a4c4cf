/- The contracts of the landed writer: numbers, a text, a record, what is seen, a digest, and lists of them, each laid behind what is built. What is built has at most 2^46 bytes. -/
import Derived.Test.YtioeidhblbfgmaaGreatY19
import Derived.Test.YtioeidhblbfgmaaGreatY37
import Derived.Test.YtioeidhblbfgmaaGreatY29

namespace Go.Proofs.YtioeidhblbfgmaaGreat
open Go.ChangeShapes Go.WideShapes Go.ChangeAt Go.RowKit
set_option linter.unusedVariables false
set_option linter.unusedSimpArgs false
set_option maxRecDepth 100000

theorem putN_any (x : Int) (h : 0 ≤ x ∧ x < 4611686018427387904) (w : World) : Calls Tryz.prog 89 #[.int .u64 x] w fun e w' => e = .returned (.tuple #[.string (encI x), .int .i64 0]) ∧ Kept w w' := by
  obtain ⟨n, rfl⟩ := nat_of h.1
  refine (Put_any n (by omega) w).mono ?_
  rintro e w' ⟨he, hb⟩
  have e : putE n = (encB n, 0) := by unfold putE; rw [if_pos (by omega)]; rfl
  rw [e] at he
  refine ⟨he.trans ?_, kept_below hb⟩
  show _ = Ending.returned (.tuple #[.string (encB (n : Int).toNat), .int .i64 0])
  rw [Int.toNat_natCast]; rfl
theorem mayS_facts {x : Sn} (h : mayS x = true) : x.key.size ≤ 250 ∧ x.s.p ≤ 281474976710655 := by
  unfold mayS keyMay at h
  simp only [Bool.and_eq_true, decide_eq_true_eq] at h
  exact ⟨h.1.1.2, h.2.1⟩
theorem recB_lim {r : R} (hr : r.ok) (h : mayR r = true) : (putR r).size ≤ 2000 := by
  obtain ⟨o1, ⟨o2, o3, o4, o5, o6, o7⟩, ⟨o8, o9⟩, ⟨o10, o11⟩, ⟨o12, o13⟩, o14⟩ := hr
  obtain ⟨⟨f1, f2⟩, f3, f4, f5, f6, f7, f8⟩ := may_facts ⟨o2, o4, o6, o10, o12⟩ h
  have := putR_le r
  omega
theorem cat_one (n : Nat) : cat [(n : Int)] = encB n := by
  show encI (n : Int) ++ (⟨#[]⟩ : ByteArray) = encB n
  rw [app_nil, encI_of]
theorem kept_set5 {W w : World} (h : Kept W w) {G : Nat} (hG : W.heap.size ≤ G) (a0 a1 a2 a3 a4 : Value) : Kept W (set5 w G a0 a1 a2 a3 a4) := kept_set (kept_set (kept_set (kept_set (kept_set h hG 0 a0) hG 1 a1) hG 2 a2) hG 3 a3) hG 4 a4
set_option maxHeartbeats 3200000 in
theorem ldNums_any (W : World) (X : Nat) (b : ByteArray) (w : World) (h : Bld W X b w) (hb : b.size ≤ 140737480000000) (ns : List Int) (hn : ns.length ≤ 4) (hx : ∀ x ∈ ns, 0 ≤ x ∧ x < 4611686018427387904) (g : Nat) (hg : At w g (ns.map fun x => Value.int .u64 x).toArray 53) :
    Calls Tryz.prog 52 #[.pointer (some ⟨X, 0, none⟩), .slice (some ⟨g, 0, none⟩) ns.length ns.length] w fun e w' => e = .returned (.tuple #[]) ∧ Bld W X (b ++ cat ns) w' ∧ WrT X w w' := by
  have HB := hid h
  have HG := hid hg
  have HX := hid hx
  have hgX : Hid (g ≠ X) := hid (by
    obtain ⟨p, v, -, ha, -⟩ := h.at_
    exact at_ne hg ha (by decide))
  have HC : Hid (∀ (u : World) (k : Nat) (x : Int), ns[k]? = some x → WrT X w u → u.cell? ⟨g, k, none⟩ = some (.int .u64 x)) := hid (fun u k x hk t => by
    rw [at_cell (at_wrt HG.out t hgX.out (by decide))]
    simp [hk])
  have HT : Hid (∀ (k : Nat) (x : Int), ns[k]? = some x → cat (ns.take (k + 1)) = cat (ns.take k) ++ encI x) := hid (fun k x hk => by rw [List.take_add_one, hk]; exact cat_snoc _ _)
  have HF : Hid (cat (ns.take ns.length) = cat ns) := hid (by rw [List.take_length])
  have HP : Hid (∀ (k : Nat) (x : Int), ns[k]? = some x → 0 ≤ x ∧ x < 4611686018427387904) := hid (fun k x hk => hx _ (List.mem_of_getElem? hk))
  have HY : Hid (∀ k : Nat, k < ns.length → ∃ y, ns[k]? = some y) := hid (fun k hk => ⟨ns[k], List.getElem?_eq_getElem hk⟩)
  clear h hg hx
  generalize hN : ns.length = n at *
  go_enter Tryz.func52, Tryz.ntmps52
  go_wp2_with fail
  go_loopw [10] (fun iv wr => ∃ (k : Nat) (S : ByteArray), k ≤ n ∧ iv = .int .i64 (k : Int) ∧ S.size ≤ b.size + 8 * k ∧ Hid (S = b ++ cat (ns.take k)) ∧ Hid (Bld W X S wr) ∧ Hid (WrT X w wr)) (fun iv _ => n - (intOf iv).toNat)
  case atStart => exact ⟨0, b, Nat.zero_le _, rfl, by omega, hid (by simp [cat, app_nil]), HB, hid (wrt_refl X w)⟩
  case round =>
    obtain ⟨k, S, hk, rfl, hS, HS, HBk, HTk⟩ := hrel
    by_cases hlt : k < n
    · have hltz : (k : Int) < (n : Int) := by omega
      obtain ⟨x, hy⟩ := HY.out k hlt
      have c0 := HC.out wr k x hy HTk.out
      have hN2 := putN_any x (HP.out k x hy)
      have HS2 : Hid (S ++ encI x = b ++ cat (ns.take (k + 1))) := hid (by rw [HT.out k x hy, HS.out, ByteArray.append_assoc])
      have hsz := encI_size x
      clear hy
      go_wp2_with fail
      refine (hN2 _).mono ?_
      rintro e w1 ⟨rfl, k1⟩
      have HB1 := hid (bld_kept HBk.out k1)
      have HT1 := hid (wrt_trans HTk.out (wrt_kept k1))
      clear k1 c0 hN2
      go_wp2_with fail
      refine (write_any W X S (encI x) _ HB1.out (by omega)).mono ?_
      rintro e w2 ⟨rfl, hb2, t2⟩
      have HB2 := hid hb2
      have HT2 := hid (wrt_trans HT1.out t2)
      clear hb2 t2
      go_wp2_with fail
      go_roundw
      case rel => exact ⟨k + 1, S ++ encI x, by omega, by go_num, by rw [ByteArray.size_append]; omega, HS2, HB2, HT2⟩
      case measure => simp [intOf]; omega
    · have hltz : ¬ (k : Int) < (n : Int) := by omega
      have e : k = n := by omega
      subst e
      have HE : Hid (b ++ cat ns = S) := hid (by rw [HS.out, HF.out])
      go_wp2_with fail
      refine bodyPost_end (v := .tuple #[]) (by kernel_rfl) rfl ?_
      exact ⟨rfl, by rw [HE.out]; exact HBk.out, HTk.out⟩
theorem ldBit_any (f : Bool) (w : World) : Calls Tryz.prog 53 #[.bool f] w fun e w' => e = .returned (.int .u64 (if f then 1 else 0)) ∧ w' = w := by
  cases f
  · go_enter Tryz.func53, Tryz.ntmps53
    go_wp2
    go_ret
    exact ⟨rfl, rfl⟩
  · go_enter Tryz.func53, Tryz.ntmps53
    go_wp2
    go_ret
    exact ⟨rfl, rfl⟩
set_option maxHeartbeats 3200000 in
theorem ldText_any (W : World) (X : Nat) (b : ByteArray) (w : World) (h : Bld W X b w) (hb : b.size ≤ 70368744177664) (t : ByteArray) (ht : t.size ≤ 1000) :
    Calls Tryz.prog 57 #[.pointer (some ⟨X, 0, none⟩), .string t] w fun e w' => e = .returned (.tuple #[]) ∧ Bld W X (b ++ textE t) w' ∧ WrT X w w' := by
  have hP := PutText_kept t (by omega)
  have hsz := textE_lim t
  have hW := fun (u : World) (k : Kept w u) => write_any W X b (textE t) u (bld_kept h k) (by omega)
  have HW := hid hW
  clear hW hsz hb h
  go_enter Tryz.func57, Tryz.ntmps57
  go_wp2_with fail
  have k0 : Kept w w.drew := kept_drew (kept_refl w)
  refine wp_region_noPanic ?_
  refine wp_region_held_drew (S := (fun _ => True)) (by kernel_rfl) (trivial) (fun hHeld => ?_)
  refine wpAnyH_take (i := 0) (v := .pointer (some ⟨X, 0, none⟩)) rfl (by kernel_rfl) (by kernel_rfl) (by kernel_rfl) (fun _ _ _ h => h) (Or.inl ⟨by rfl, fun w hSw => by (try dsimp only at hSw); go_simp⟩) (by assumption) ?_
  try simp only [List.getElem_toArray, List.getElem_cons_zero, List.getElem_cons_succ, Act.put, List.setIfInBounds_toArray, List.set_cons_zero, List.set_cons_succ]
  refine wpAnyH_take (i := 1) (v := .pointer (some ⟨X, 0, none⟩)) rfl (by kernel_rfl) (by kernel_rfl) (by kernel_rfl) (fun _ _ _ h => h) (Or.inl ⟨by rfl, fun w hSw => by (try dsimp only at hSw); go_simp⟩) (by assumption) ?_
  try simp only [List.getElem_toArray, List.getElem_cons_zero, List.getElem_cons_succ, Act.put, List.setIfInBounds_toArray, List.set_cons_zero, List.set_cons_succ]
  refine wpAnyH_take (i := 2) (v := .pointer (some ⟨X, 0, none⟩)) rfl (by kernel_rfl) (by kernel_rfl) (by kernel_rfl) (fun _ _ _ h => h) (Or.inl ⟨by rfl, fun w hSw => by (try dsimp only at hSw); go_simp⟩) (by assumption) ?_
  try simp only [List.getElem_toArray, List.getElem_cons_zero, List.getElem_cons_succ, Act.put, List.setIfInBounds_toArray, List.set_cons_zero, List.set_cons_succ]
  refine wpAnyH_take (i := 3) (v := .string t) rfl (by kernel_rfl) (by kernel_rfl) (by kernel_rfl) (fun _ _ _ h => h) (Or.inl ⟨by rfl, fun w hSw => by (try dsimp only at hSw); go_simp⟩) (by assumption) ?_
  try simp only [List.getElem_toArray, List.getElem_cons_zero, List.getElem_cons_succ, Act.put, List.setIfInBounds_toArray, List.set_cons_zero, List.set_cons_succ]
  refine wpAnyH_ready (rs := [4]) (by kernel_rfl) (by simp) ?_
  refine AllReadyH.cons (i := 4) rfl (fun K hK => ?_) AllReadyH.nil
  go_simp
  refine (hP _).mono ?_
  rintro e w3 ⟨rfl, h3⟩
  replace k0 := kept_trans k0 h3
  clear h3
  clear hHeld
  show K _ _
  refine hK.out _ _ (trivial) (fun hHeld => ?_)
  clear hK K
  try simp only [List.getElem_toArray, List.getElem_cons_zero, List.getElem_cons_succ, Act.put, List.setIfInBounds_toArray, List.set_cons_zero, List.set_cons_succ]
  refine wpAnyH_ready (rs := [5]) (by kernel_rfl) (by simp) ?_
  refine AllReadyH.cons (i := 5) rfl (fun K hK => ?_) AllReadyH.nil
  go_simp
  refine (HW.out _ k0).mono ?_
  rintro e w4 ⟨rfl, hb4, t4⟩
  have HB4 := hid hb4
  have HT4 := hid (wrt_trans (wrt_kept k0) t4)
  clear hb4 t4
  clear hHeld
  show K _ _
  refine hK.out _ _ (trivial) (fun hHeld => ?_)
  clear hK K
  try simp only [List.getElem_toArray, List.getElem_cons_zero, List.getElem_cons_succ, Act.put, List.setIfInBounds_toArray, List.set_cons_zero, List.set_cons_succ]
  refine wpAnyH_done (by kernel_rfl) ?_ _
  refine NoPanic.normal ?_
  clear hHeld
  go_wp2_with fail
  refine bodyPost_end (v := .tuple #[]) (by kernel_rfl) rfl ?_
  exact ⟨rfl, HB4.out, HT4.out⟩
set_option maxHeartbeats 3200000 in
theorem ldNews_w (W : World) (X : Nat) (b : ByteArray) (w : World) (h : Bld W X b w) (hb : b.size ≤ 70368744177664) (x : Nw) (hx : NwOk x) :
    Calls Tryz.prog 55 #[.pointer (some ⟨X, 0, none⟩), .agg #[.int .u8 x.node, .int .u8 x.st, .int .u32 x.inc]] w fun e w' => e = .returned (.tuple #[]) ∧ Bld W X (b ++ newsB x) w' ∧ WrT X w w' := by
  obtain ⟨o1, o2, o3⟩ := hx
  have q1 : IntKind.u64.wrap x.node = x.node := wrap64 (by omega)
  have q2 : IntKind.u64.wrap x.st = x.st := wrap64 (by omega)
  have q3 : IntKind.u64.wrap x.inc = x.inc := wrap64 (by omega)
  have k1 := kept_alloc (kept_refl w) (.cells #[.int .u8 x.node, .int .u8 x.st, .int .u32 x.inc] 79)
  have A1 := at_new w #[.int .u8 x.node, .int .u8 x.st, .int .u32 x.inc] 79
  have HB1 := hid (bld_kept h k1)
  have HK1 := hid k1
  have HA1 := hid A1
  have hXn : Hid (w.heap.size ≠ X) := hid (by
    obtain ⟨p, v, -, ha, -⟩ := h.at_
    have := at_lt ha
    omega)
  obtain ⟨c0, c1, c2, cf⟩ := at_cells3 A1
  have HEq : Hid (b ++ newsB x = b ++ cat [x.node, x.st, x.inc]) := hid (by unfold newsB; simp only [cat, app_nil, ByteArray.append_assoc])
  clear k1 A1 h
  go_enter Tryz.func55, Tryz.ntmps55
  go_wp2_with fail
  have k3 := kept_alloc (kept_refl (w.alloc (.cells #[.int .u8 x.node, .int .u8 x.st, .int .u32 x.inc] 79))) (.cells #[.int .u64 x.node, .int .u64 x.st, .int .u64 x.inc] 53)
  have hG0 := at_new (w.alloc (.cells #[.int .u8 x.node, .int .u8 x.st, .int .u32 x.inc] 79)) #[.int .u64 x.node, .int .u64 x.st, .int .u64 x.inc] 53
  simp only [World.size_alloc] at hG0
  have HG := hid hG0
  clear hG0
  have HB3 := hid (bld_kept HB1.out k3)
  have HT3 := hid (wrt_trans (X := X) (wrt_kept HK1.out) (wrt_kept k3))
  clear k3
  refine (ldNums_any W X b _ HB3.out (by omega) [x.node, x.st, x.inc] (by simp) (by intro y hy; simp at hy; rcases hy with rfl | rfl | rfl <;> omega) (w.heap.size + 1) HG.out).mono ?_
  rintro e w4 ⟨rfl, hb4, t4⟩
  have HB4 := hid hb4
  have HT4 := hid (wrt_trans HT3.out t4)
  clear hb4 t4
  go_wp2_with fail
  refine bodyPost_end (v := .tuple #[]) (by kernel_rfl) rfl ?_
  exact ⟨rfl, by rw [HEq.out]; exact HB4.out, HT4.out⟩
set_option maxHeartbeats 3200000 in
theorem ldSeen_w (W : World) (X : Nat) (b : ByteArray) (w : World) (h : Bld W X b w) (hb : b.size ≤ 70368744177664) (x : Sn) (hx : SnOk x ∧ mayS x = true) :
    Calls Tryz.prog 61 #[.pointer (some ⟨X, 0, none⟩), .agg #[.string x.key, .int .u64 x.s.p, .int .u32 x.s.l, .int .u8 x.s.n, .int .u8 x.kind]] w fun e w' => e = .returned (.tuple #[]) ∧ Bld W X (b ++ seenB x) w' ∧ WrT X w w' := by
  obtain ⟨⟨o1, o2, o5⟩, hm⟩ := hx
  obtain ⟨p1, p2, p3, p4, p5, p6⟩ := o2
  obtain ⟨f1, f2⟩ := mayS_facts hm
  have q3 : IntKind.u64.wrap x.s.l = x.s.l := wrap64 (by omega)
  have q4 : IntKind.u64.wrap x.s.n = x.s.n := wrap64 (by omega)
  have q5 : IntKind.u64.wrap x.kind = x.kind := wrap64 (by omega)
  clear hm
  have k1 := kept_alloc (kept_refl w) (.cells #[.string x.key, .int .u64 x.s.p, .int .u32 x.s.l, .int .u8 x.s.n, .int .u8 x.kind] 59)
  have A1 := at_new w #[.string x.key, .int .u64 x.s.p, .int .u32 x.s.l, .int .u8 x.s.n, .int .u8 x.kind] 59
  have HB1 := hid (bld_kept h k1)
  have HK1 := hid k1
  have HA1 := hid A1
  have hXn : Hid (w.heap.size ≠ X) := hid (by
    obtain ⟨p, v, -, ha, -⟩ := h.at_
    have := at_lt ha
    omega)
  obtain ⟨c0, c1, c2, c3, c4, cf⟩ := at_cells5 A1
  have HEq : Hid (b ++ seenB x = b ++ textE x.key ++ cat [x.s.p, x.s.l, x.s.n, x.kind]) := hid (by unfold seenB; simp only [cat, app_nil, ByteArray.append_assoc])
  clear k1 A1 h
  go_enter Tryz.func61, Tryz.ntmps61
  go_wp2_with fail
  refine (ldText_any W X b _ HB1.out hb x.key (by omega)).mono ?_
  rintro e w2 ⟨rfl, hb2, t2⟩
  have HB2 := hid hb2
  have HT2 := hid (wrt_trans (wrt_kept HK1.out) t2)
  have HA2 := hid (at_wrt HA1.out t2 hXn.out (by decide))
  obtain ⟨d0, d1, d2, d3, d4, df⟩ := at_cells5 HA2.out
  have hsz2 : (b ++ textE x.key).size ≤ 140737480000000 := by rw [ByteArray.size_append]; have := textE_lim x.key; omega
  clear hb2 t2
  have k3 := kept_alloc (kept_refl w2) (.cells #[.int .u64 x.s.p, .int .u64 x.s.l, .int .u64 x.s.n, .int .u64 x.kind] 53)
  have HG := hid (at_new w2 #[.int .u64 x.s.p, .int .u64 x.s.l, .int .u64 x.s.n, .int .u64 x.kind] 53)
  have HB3 := hid (bld_kept HB2.out k3)
  have HT3 := hid (wrt_trans HT2.out (wrt_kept k3))
  clear k3
  go_wp2_with fail
  refine (ldNums_any W X (b ++ textE x.key) _ HB3.out hsz2 [x.s.p, x.s.l, x.s.n, x.kind] (by simp) (by intro y hy; simp at hy; rcases hy with rfl | rfl | rfl | rfl <;> omega) w2.heap.size HG.out).mono ?_
  rintro e w4 ⟨rfl, hb4, t4⟩
  have HB4 := hid hb4
  have HT4 := hid (wrt_trans HT3.out t4)
  clear hb4 t4
  go_wp2_with fail
  refine bodyPost_end (v := .tuple #[]) (by kernel_rfl) rfl ?_
  exact ⟨rfl, by rw [HEq.out]; exact HB4.out, HT4.out⟩
set_option maxHeartbeats 3200000 in
theorem ldRec_w (W : World) (X : Nat) (b : ByteArray) (w : World) (h : Bld W X b w) (hb : b.size ≤ 70368744177664) (x : R) (hx : x.ok ∧ mayR x = true) :
    Calls Tryz.prog 59 #[.pointer (some ⟨X, 0, none⟩), .agg #[.string x.key, .int .u64 x.s.p, .int .u32 x.s.l, .int .u8 x.s.n, .int .u8 x.kind, .int .u32 x.flags, .int .u64 x.exp, .string x.body]] w fun e w' => e = .returned (.tuple #[]) ∧ Bld W X (b ++ putR x) w' ∧ WrT X w w' := by
  have hP := PutR_any x hx.1
  unfold putV at hP
  simp only [hx.2, if_true] at hP
  have hsz := recB_lim hx.1 hx.2
  have k1 := kept_alloc (kept_refl w) (.cells #[.string x.key, .int .u64 x.s.p, .int .u32 x.s.l, .int .u8 x.s.n, .int .u8 x.kind, .int .u32 x.flags, .int .u64 x.exp, .string x.body] 57)
  obtain ⟨c0, c1, c2, c3, c4, c5, c6, c7, cf⟩ := at_cells8 (at_new w #[.string x.key, .int .u64 x.s.p, .int .u32 x.s.l, .int .u8 x.s.n, .int .u8 x.kind, .int .u32 x.flags, .int .u64 x.exp, .string x.body] 57)
  have HB1 := hid (bld_kept h k1)
  have HK1 := hid k1
  clear k1 h hx
  go_enter Tryz.func59, Tryz.ntmps59
  go_wp2_with fail
  refine (hP _).mono ?_
  rintro e w2 ⟨rfl, k2⟩
  have HB2 := hid (bld_kept HB1.out k2)
  have HK2 := hid (kept_trans HK1.out k2)
  clear k2 c0 c1 c2 c3 c4 c5 c6 c7 cf hP
  go_wp2_with fail
  refine (write_any W X b (putR x) _ HB2.out (by omega)).mono ?_
  rintro e w3 ⟨rfl, hb3, t3⟩
  have HB3 := hid hb3
  have HT3 := hid (wrt_trans (wrt_kept HK2.out) t3)
  clear hb3 t3
  go_wp2_with fail
  refine bodyPost_end (v := .tuple #[]) (by kernel_rfl) rfl ?_
  exact ⟨rfl, HB3.out, HT3.out⟩
set_option maxHeartbeats 3200000 in
theorem ldDig_w (W : World) (X : Nat) (b : ByteArray) (w : World) (h : Bld W X b w) (hb : b.size ≤ 70368744177664) (x : Int) (hx : u64Ok x) :
    Calls Tryz.prog 63 #[.pointer (some ⟨X, 0, none⟩), .int .u64 x] w fun e w' => e = .returned (.tuple #[]) ∧ Bld W X (b ++ digB x) w' ∧ WrT X w w' := by
  obtain ⟨x0, x1⟩ := hx
  have d1 : x.tdiv 4294967296 = x / 4294967296 := Int.tdiv_eq_ediv_of_nonneg x0
  have d2 : x.tmod 4294967296 = x % 4294967296 := Int.tmod_eq_emod_of_nonneg x0
  have d3 : IntKind.u64.wrap (x / 4294967296) = x / 4294967296 := wrap64 (by omega)
  have d4 : IntKind.u64.wrap (x % 4294967296) = x % 4294967296 := wrap64 (by omega)
  have k1 := kept_alloc (kept_refl w) (.cells #[.int .u64 (x / 4294967296), .int .u64 (x % 4294967296)] 53)
  have HG := hid (at_new w #[.int .u64 (x / 4294967296), .int .u64 (x % 4294967296)] 53)
  have HB1 := hid (bld_kept h k1)
  have HK1 := hid k1
  have HEq : Hid (b ++ digB x = b ++ cat [x / 4294967296, x % 4294967296]) := hid (by unfold digB; simp only [cat, app_nil])
  clear k1 h
  go_enter Tryz.func63, Tryz.ntmps63
  go_wp2_with fail
  refine (ldNums_any W X b _ HB1.out (by omega) [x / 4294967296, x % 4294967296] (by simp) (by intro y hy; simp at hy; rcases hy with rfl | rfl <;> omega) w.heap.size HG.out).mono ?_
  rintro e w4 ⟨rfl, hb4, t4⟩
  have HB4 := hid hb4
  have HT4 := hid (wrt_trans (wrt_kept HK1.out) t4)
  clear hb4 t4
  go_wp2_with fail
  refine bodyPost_end (v := .tuple #[]) (by kernel_rfl) rfl ?_
  exact ⟨rfl, by rw [HEq.out]; exact HB4.out, HT4.out⟩
end Go.Proofs.YtioeidhblbfgmaaGreat
