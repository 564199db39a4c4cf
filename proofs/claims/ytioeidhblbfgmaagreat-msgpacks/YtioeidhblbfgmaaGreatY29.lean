/- The contract of the reference's Put: a record's bytes, or the error's number. It turns nothing that was there. -/
import Derived.Test.YtioeidhblbfgmaaGreatY28
import Derived.Test.YtioeidhblbfgmaaGreatY25
import Derived.Test.YtioeidhblbfgmaaGreatY15

namespace Go.Proofs.YtioeidhblbfgmaaGreat
open Go.ChangeShapes Go.WideShapes Go.ChangeAt Go.RowKit
set_option linter.unusedVariables false
set_option maxRecDepth 100000
set_option linter.unusedSimpArgs false

def cat : List Int → ByteArray
  | [] => ⟨#[]⟩
  | x :: l => encI x ++ cat l
theorem app_nil (b : ByteArray) : b ++ (⟨#[]⟩ : ByteArray) = b := by
  apply bytes_ext; simp
theorem nil_app (b : ByteArray) : (⟨#[]⟩ : ByteArray) ++ b = b := by
  apply bytes_ext; simp
theorem cat_snoc (l : List Int) (x : Int) : cat (l ++ [x]) = cat l ++ encI x := by
  induction l with
  | nil => simp [cat, app_nil, nil_app]
  | cons y l ih => simp [cat, ih, ByteArray.append_assoc]
theorem refNum_any (x : Int) (h : 0 ≤ x ∧ x < 4611686018427387904) (w : World) :
    Calls Tryz.prog 94 #[.int .u64 x] w fun e w' => e = .returned (.tuple #[.string (encI x), .int .i64 0]) ∧ Kept w w' := by
  obtain ⟨n, rfl⟩ := nat_of h.1
  refine (refPut_any n (by omega) w).mono ?_
  rintro e w' ⟨he, hb⟩
  have e : putE n = (encB n, 0) := by unfold putE; rw [if_pos (by omega)]; rfl
  rw [e] at he
  refine ⟨he.trans ?_, kept_below hb⟩
  show _ = Ending.returned (.tuple #[.string (encB (n : Int).toNat), .int .i64 0])
  rw [Int.toNat_natCast]; rfl
theorem refText_kept (t : ByteArray) (ht : t.size ≤ 140737488355328) (w : World) : Calls Tryz.prog 68 #[.string t] w fun e w' => e = .returned (.string (textE t)) ∧ Kept w w' :=
  (refText_any t ht w).mono fun _ _ ⟨he, hb⟩ => ⟨he, kept_below hb⟩
theorem info22 : (Tryz.prog.info? 53).map (fun i => (i.zero, i.size, i.bytes)) = some (some (.int .u64 0), 1, 8) := by kernel_rfl
theorem kept_grown' {W w w' : World} {row : Option Nat} (h : Kept W w) (g : w.grownBy w' row) (hr : ∀ k, row = some k → W.heap.size ≤ k) : Kept W w' :=
  kept_of (g.os.trans (kept_os h)) (g.output.trans (kept_output h)) (Nat.le_trans h.2 g.size) (fun i hi => (g.block i (Nat.lt_of_lt_of_le hi h.2) (fun e => by have := hr i e.symm; omega)).trans (kept_block h hi))
theorem at_grown {w w' : World} {row : Option Nat} {X T : Nat} {cs : Array Value} (h : At w X cs T) (g : w.grownBy w' row) (hr : some X ≠ row) : At w' X cs T := (g.block X (at_lt h) hr).trans h
theorem own4 {w : World} {B base : Nat} {a b c d : Value} (hB : base ≤ B) (h : At w B #[a, b, c, d] 53) : w.ownsRow base 53 1 (.slice (some ⟨B, 0, none⟩) 4 4) 4 [a, b, c, d] :=
  ⟨rfl, .inr ⟨B, 4, #[a, b, c, d], rfl, hB, h, Nat.le_refl _, by unfold maxLen; omega, rfl, rfl⟩⟩
theorem own_form' {w : World} {B W : Nat} {v : Value} {xs : List Value} {e s : Nat} (h : w.ownsRow B e s v W xs) (hW : 0 < W) : ∃ g cap, v = .slice (some ⟨g, 0, none⟩) W cap := by
  rcases h.2 with ⟨_, h0⟩ | ⟨g, cap, cur, h1, _⟩
  · omega
  · exact ⟨g, cap, h1⟩
theorem two_new (w : World) (a b : Value) (e : TypeId) (o : Obj) : ∀ j u, [a, b][j]? = some u → ((w.alloc o).alloc (.cells #[a, b] e)).cell? ((⟨w.heap.size + 1, 0, none⟩ : Addr).add j) = some u := by
  intro j u hj
  have h := at_new (w.alloc o) #[a, b] e
  simp only [World.size_alloc] at h
  match j, hj with
  | 0, hj => simp at hj; subst hj; exact at_cell h 0
  | 1, hj => simp at hj; subst hj; exact at_cell h 1
theorem two_one (a b : Int) : ∀ u ∈ [Value.int .u64 a, Value.int .u64 b], u.oneCell' = true := by
  intro u hu
  simp at hu
  rcases hu with rfl | rfl <;> rfl
theorem add_zero_plain (b j : Nat) : (⟨b, 0, none⟩ : Addr).add j = ⟨b, j, none⟩ := by
  rcases j with _ | j <;> simp [Addr.add]
theorem refPut_bad (r : R) (hr : r.ok) (h : mayR r = false) (w : World) :
    Calls Tryz.prog 69 #[.agg #[.string r.key, .int .u64 r.s.p, .int .u32 r.s.l, .int .u8 r.s.n, .int .u8 r.kind, .int .u32 r.flags, .int .u64 r.exp, .string r.body]] w fun e w' => e = .returned (.tuple #[.string ⟨#[]⟩, .int .i64 1]) ∧ Kept w w' := by
  have HK : Hid (Kept w (w.alloc (.cells #[.string r.key, .int .u64 r.s.p, .int .u32 r.s.l, .int .u8 r.s.n, .int .u8 r.kind, .int .u32 r.flags, .int .u64 r.exp, .string r.body] 57))) := kept_alloc (kept_refl w) _
  have hM := refMay_any r hr
  rw [h] at hM
  clear hr h
  go_enter Tryz.func69, Tryz.ntmps69
  go_wp2_with fail
  refine (hM _).mono ?_
  rintro e w1 ⟨rfl, k1⟩
  have K1 := kept_trans HK.out k1
  clear k1
  go_wp2_with fail
  go_ret2
  exact ⟨rfl, K1⟩
set_option maxHeartbeats 1600000 in
set_option maxRecDepth 100000 in
theorem refPut_other (r : R) (hr : r.ok) (h : mayR r = true) (h3 : r.kind ≠ 3) (w : World) :
    Calls Tryz.prog 69 #[.agg #[.string r.key, .int .u64 r.s.p, .int .u32 r.s.l, .int .u8 r.s.n, .int .u8 r.kind, .int .u32 r.flags, .int .u64 r.exp, .string r.body]] w fun e w' => e = .returned (.tuple #[.string (putR r), .int .i64 0]) ∧ Kept w w' := by
  have HP : Hid (putR r = headB r) := by show _ = _; unfold putR; rw [if_neg h3]
  unfold headB at HP
  have g3 : (r.kind == 3) = false := by simpa using h3
  clear h3
  obtain ⟨o1, ⟨o2, o3, o4, o5, o6, o7⟩, ⟨o8, o9⟩, ⟨o10, o11⟩, ⟨o12, o13⟩, o14⟩ := hr
  obtain ⟨⟨f1, f2⟩, f3, f4, f5, f6, f7, f8⟩ := may_facts ⟨o2, o4, o6, o10, o12⟩ h
  have hM := refMay_any r ⟨o1, ⟨o2, o3, o4, o5, o6, o7⟩, ⟨o8, o9⟩, ⟨o10, o11⟩, ⟨o12, o13⟩, o14⟩
  rw [h] at hM
  have hT0 := refText_kept r.key (by omega)
  have hT7 := refText_kept r.body (by omega)
  have s0 := textE_le r.key
  have s7 := textE_le r.body
  replace s0 : (textE r.key).size ≤ 300 := by omega
  replace s7 : (textE r.body).size ≤ 1200 := by omega
  have q0 : 0 ≤ r.s.p ∧ r.s.p < 4611686018427387904 := by omega
  have q1 : 0 ≤ r.s.l ∧ r.s.l < 4611686018427387904 := by omega
  have q2 : 0 ≤ r.s.n ∧ r.s.n < 4611686018427387904 := by omega
  have q3 : 0 ≤ r.kind ∧ r.kind < 4611686018427387904 := by omega
  have q4 : 0 ≤ r.flags ∧ r.flags < 4611686018427387904 := by omega
  have q5 : 0 ≤ r.exp ∧ r.exp < 4611686018427387904 := by omega
  have hwl := wrap_id q1
  have hwn := wrap_id q2
  have hwk := wrap_id q3
  have hwf := wrap_id q4
  clear h o1 o2 o3 o4 o5 o6 o7 o8 o9 o10 o11 o12 o13 o14 f1 f2 f3 f4 f5 f6 f7 f8
  generalize textE r.key = E0 at *
  generalize textE r.body = E7 at *
  have K0 := kept_alloc (kept_refl w) (.cells #[.string r.key, .int .u64 r.s.p, .int .u32 r.s.l, .int .u8 r.s.n, .int .u8 r.kind, .int .u32 r.flags, .int .u64 r.exp, .string r.body] 57)
  have A0 := at_new w #[.string r.key, .int .u64 r.s.p, .int .u32 r.s.l, .int .u8 r.s.n, .int .u8 r.kind, .int .u32 r.flags, .int .u64 r.exp, .string r.body] 57
  have Q0 := hid q0
  have Q1 := hid q1
  have Q2 := hid q2
  have Q3 := hid q3
  have Q4 := hid q4
  have Q5 := hid q5
  clear q0 q1 q2 q3 q4 q5
  go_enter Tryz.func69, Tryz.ntmps69
  go_wp2_with fail
  generalize w.alloc (.cells #[.string r.key, .int .u64 r.s.p, .int .u32 r.s.l, .int .u8 r.s.n, .int .u8 r.kind, .int .u32 r.flags, .int .u64 r.exp, .string r.body] 57) = w0 at *
  generalize w.heap.size = X at *
  refine (hM _).mono ?_
  rintro e w1 ⟨rfl, k1⟩
  replace K0 := kept_trans K0 k1
  replace A0 := at_kept A0 k1
  clear k1 hM
  obtain ⟨c0, c1, c2, c3, c4, c5, c6, c7⟩ := at_cells8' A0
  go_wp2_with fail
  refine (hT0 _).mono ?_
  rintro e w2 ⟨rfl, k2⟩
  replace K0 := kept_trans K0 k2
  replace A0 := at_kept A0 k2
  clear k2 hT0 c0 c1 c2 c3 c4 c5 c6 c7
  obtain ⟨c0, c1, c2, c3, c4, c5, c6, c7⟩ := at_cells8' A0
  have A3 := hid (at_alloc A0 (.cells #[.int .u64 r.s.p, .int .u64 r.s.l, .int .u64 r.s.n, .int .u64 r.kind] 53))
  have K3 := hid (kept_alloc K0 (.cells #[.int .u64 r.s.p, .int .u64 r.s.l, .int .u64 r.s.n, .int .u64 r.kind] 53))
  have N3 := hid (at_new w2 #[.int .u64 r.s.p, .int .u64 r.s.l, .int .u64 r.s.n, .int .u64 r.kind] 53)
  have hlX := at_lt A0
  clear A0 K0
  go_wp2_with fail
  clear c0 c1 c2 c3 c4 c5 c6 c7 hlX
  generalize w2.alloc (.cells #[.int .u64 r.s.p, .int .u64 r.s.l, .int .u64 r.s.n, .int .u64 r.kind] 53) = w3 at *
  generalize w2.heap.size = bN at *
  have HB : Hid (bN < w3.heap.size) := at_lt N3.out
  have HC : Hid (∀ k (hk : k < [r.s.p, r.s.l, r.s.n, r.kind].length), w3.cell? ⟨bN, k, none⟩ = some (.int .u64 [r.s.p, r.s.l, r.s.n, r.kind][k])) := by
    intro k hk
    match k, hk with
    | 0, _ => exact at_cell N3.out 0
    | 1, _ => exact at_cell N3.out 1
    | 2, _ => exact at_cell N3.out 2
    | 3, _ => exact at_cell N3.out 3
  have q0 := Q0.out
  have q1 := Q1.out
  have q2 := Q2.out
  have q3 := Q3.out
  generalize hL : [r.s.p, r.s.l, r.s.n, r.kind] = L at *
  have HX : Hid (∀ k (hk : k < L.length), 0 ≤ L[k] ∧ L[k] < 4611686018427387904) := by
    subst hL
    intro k hk
    match k, hk with
    | 0, _ => exact q0
    | 1, _ => exact q1
    | 2, _ => exact q2
    | 3, _ => exact q3
  have HLen : Hid (L.length = 4) := by subst hL; rfl
  have HCat : Hid (cat L = encI r.s.p ++ encI r.s.l ++ encI r.s.n ++ encI r.kind) := by show _ = _; subst hL; simp [cat, app_nil, ByteArray.append_assoc]
  clear hL q0 q1 q2 q3
  go_loopw [4, 6, 7, 8, 43] (fun sv iv bv ev jv wr => ∃ k : Nat, ∃ S : ByteArray, k ≤ 4 ∧ jv = .int .i64 k ∧ sv = .string S ∧ S.size ≤ 300 + 8 * k ∧ Hid (S = E0 ++ cat (L.take k)) ∧ Hid (Kept w3 wr)) (fun _ _ _ _ jv _ => 4 - (intOf jv).toNat)
  case atStart => exact ⟨0, E0, Nat.zero_le _, rfl, rfl, by omega, by show _ = _; simp [cat, app_nil], kept_refl w3⟩
  case round =>
    obtain ⟨k, S, hk, rfl, rfl, hS, HS, HK⟩ := hrel
    by_cases hlt : k < 4
    · have hk' : k < L.length := by rw [HLen.out]; exact hlt
      have hcell := (kept_cell HK.out HB.out).trans (HC.out k hk')
      have hx := HX.out k hk'
      have HS2 : Hid (S ++ encI L[k] = E0 ++ cat (L.take (k + 1))) := by
        show _ = _
        rw [List.take_succ_eq_append_getElem hk', cat_snoc, HS.out, ByteArray.append_assoc]
      have hsz := encI_size L[k]
      have hN := refNum_any L[k] hx
      generalize L[k] = x at *
      generalize encI x = E at *
      have hS2 : S.size ≤ 400 := by omega
      clear hx
      go_wp2_with fail
      refine (hN _).mono ?_
      rintro e w5 ⟨rfl, k5⟩
      have HK5 := hid (kept_trans HK.out k5)
      clear k5 hN hcell
      go_wp2_with fail
      go_roundw
      case rel => exact ⟨k + 1, S ++ E, by omega, by go_num, rfl, by rw [ByteArray.size_append]; omega, HS2, HK5⟩
      case measure => simp [intOf]; omega
    · obtain ⟨c0, c1, c2, c3, c4, c5, c6, c7⟩ := at_cells8' (at_kept A3.out HK.out)
      have KW := kept_trans K3.out HK.out
      have HS2 : Hid (S = E0 ++ (encI r.s.p ++ encI r.s.l ++ encI r.s.n ++ encI r.kind)) := by
        show _ = _
        rw [HS.out, List.take_of_length_le (by rw [HLen.out]; omega), HCat.out]
      have hS2 : S.size ≤ 400 := by omega
      go_wp2_with fail
      go_ret2
      exact ⟨by rw [HP.out, HS2.out]; simp only [ByteArray.append_assoc]; rfl, KW⟩
set_option maxHeartbeats 1600000 in
set_option maxRecDepth 100000 in
theorem refPut_value (r : R) (hr : r.ok) (h : mayR r = true) (h3 : r.kind = 3) (w : World) :
    Calls Tryz.prog 69 #[.agg #[.string r.key, .int .u64 r.s.p, .int .u32 r.s.l, .int .u8 r.s.n, .int .u8 r.kind, .int .u32 r.flags, .int .u64 r.exp, .string r.body]] w fun e w' => e = .returned (.tuple #[.string (putR r), .int .i64 0]) ∧ Kept w w' := by
  have HP : Hid (putR r = headB r ++ tailB r) := by show _ = _; unfold putR; rw [if_pos h3]
  unfold headB tailB at HP
  have g3 : (r.kind == 3) = true := by simpa using h3
  clear h3
  obtain ⟨o1, ⟨o2, o3, o4, o5, o6, o7⟩, ⟨o8, o9⟩, ⟨o10, o11⟩, ⟨o12, o13⟩, o14⟩ := hr
  obtain ⟨⟨f1, f2⟩, f3, f4, f5, f6, f7, f8⟩ := may_facts ⟨o2, o4, o6, o10, o12⟩ h
  have hM := refMay_any r ⟨o1, ⟨o2, o3, o4, o5, o6, o7⟩, ⟨o8, o9⟩, ⟨o10, o11⟩, ⟨o12, o13⟩, o14⟩
  rw [h] at hM
  have hT0 := refText_kept r.key (by omega)
  have hT7 := refText_kept r.body (by omega)
  have s0 := textE_le r.key
  have s7 := textE_le r.body
  replace s0 : (textE r.key).size ≤ 300 := by omega
  replace s7 : (textE r.body).size ≤ 1200 := by omega
  have q0 : 0 ≤ r.s.p ∧ r.s.p < 4611686018427387904 := by omega
  have q1 : 0 ≤ r.s.l ∧ r.s.l < 4611686018427387904 := by omega
  have q2 : 0 ≤ r.s.n ∧ r.s.n < 4611686018427387904 := by omega
  have q3 : 0 ≤ r.kind ∧ r.kind < 4611686018427387904 := by omega
  have q4 : 0 ≤ r.flags ∧ r.flags < 4611686018427387904 := by omega
  have q5 : 0 ≤ r.exp ∧ r.exp < 4611686018427387904 := by omega
  have hwl := wrap_id q1
  have hwn := wrap_id q2
  have hwk := wrap_id q3
  have hwf := wrap_id q4
  clear h o1 o2 o3 o4 o5 o6 o7 o8 o9 o10 o11 o12 o13 o14 f1 f2 f3 f4 f5 f6 f7 f8
  generalize textE r.key = E0 at *
  generalize textE r.body = E7 at *
  have K0 := kept_alloc (kept_refl w) (.cells #[.string r.key, .int .u64 r.s.p, .int .u32 r.s.l, .int .u8 r.s.n, .int .u8 r.kind, .int .u32 r.flags, .int .u64 r.exp, .string r.body] 57)
  have A0 := at_new w #[.string r.key, .int .u64 r.s.p, .int .u32 r.s.l, .int .u8 r.s.n, .int .u8 r.kind, .int .u32 r.flags, .int .u64 r.exp, .string r.body] 57
  have Q0 := hid q0
  have Q1 := hid q1
  have Q2 := hid q2
  have Q3 := hid q3
  have Q4 := hid q4
  have Q5 := hid q5
  clear q0 q1 q2 q3 q4 q5
  go_enter Tryz.func69, Tryz.ntmps69
  go_wp2_with fail
  generalize w.alloc (.cells #[.string r.key, .int .u64 r.s.p, .int .u32 r.s.l, .int .u8 r.s.n, .int .u8 r.kind, .int .u32 r.flags, .int .u64 r.exp, .string r.body] 57) = w0 at *
  generalize w.heap.size = X at *
  refine (hM _).mono ?_
  rintro e w1 ⟨rfl, k1⟩
  replace K0 := kept_trans K0 k1
  replace A0 := at_kept A0 k1
  clear k1 hM
  obtain ⟨c0, c1, c2, c3, c4, c5, c6, c7⟩ := at_cells8' A0
  go_wp2_with fail
  refine (hT0 _).mono ?_
  rintro e w2 ⟨rfl, k2⟩
  replace K0 := kept_trans K0 k2
  replace A0 := at_kept A0 k2
  clear k2 hT0 c0 c1 c2 c3 c4 c5 c6 c7
  obtain ⟨c0, c1, c2, c3, c4, c5, c6, c7⟩ := at_cells8' A0
  have A3 := at_alloc A0 (.cells #[.int .u64 r.s.p, .int .u64 r.s.l, .int .u64 r.s.n, .int .u64 r.kind] 53)
  have K3 := kept_alloc K0 (.cells #[.int .u64 r.s.p, .int .u64 r.s.l, .int .u64 r.s.n, .int .u64 r.kind] 53)
  have N3 := at_new w2 #[.int .u64 r.s.p, .int .u64 r.s.l, .int .u64 r.s.n, .int .u64 r.kind] 53
  have hlX := at_lt A0
  have hWN := hid K0.2
  have nXN : Hid (X ≠ w2.heap.size) := Nat.ne_of_lt hlX
  have A4 := hid (at_alloc A3 (.cells #[.int .u64 r.flags, .int .u64 r.exp] 53))
  have K4 := hid (kept_alloc K3 (.cells #[.int .u64 r.flags, .int .u64 r.exp] 53))
  have O4 := hid (own4 K0.2 (at_alloc N3 (.cells #[.int .u64 r.flags, .int .u64 r.exp] 53)))
  clear A0 K0 A3 K3 N3
  obtain ⟨i0, hi, hz0, hz1, hz2⟩ := info_parts info22
  go_wp2_with (at_builtin; refine wpList_append_own _ rfl _ _ 27 rfl w.heap.size 53 i0 (.int .u64 0) 1 8 Tryz.underlying27 hi hz0 hz1 hz2 rfl (by decide) _ _ _ rfl O4.out ⟨w2.heap.size + 1, 0, none⟩ 2 2 [.int .u64 r.flags, .int .u64 r.exp] rfl rfl (two_new _ _ _ _ _) (two_one _ _) (by unfold maxLen; omega) (by omega) (by have := hWN.out; simp; omega) ?_)
  intro v' w3 hown' hgrow _
  have K3 := hid (kept_grown' K4.out hgrow (fun k hk => (O4.out.lt k hk).1))
  have A3 := hid (at_grown A4.out hgrow (by intro e; exact nXN.out (by simpa [Value.ownBlock] using e)))
  obtain ⟨bN, cap, rfl⟩ := own_form' hown' (by omega)
  have HB : Hid (bN < w3.heap.size) := (hown'.lt bN rfl).2
  have HC : Hid (∀ k (hk : k < [r.s.p, r.s.l, r.s.n, r.kind, r.flags, r.exp].length), w3.cell? ⟨bN, k, none⟩ = some (.int .u64 [r.s.p, r.s.l, r.s.n, r.kind, r.flags, r.exp][k])) := by
    intro k hk
    have hk6 : k < 6 := hk
    have := hown'.cells (g := bN) rfl k
    rw [add_zero_plain] at this
    apply this
    match k, hk with
    | 0, _ => rfl
    | 1, _ => rfl
    | 2, _ => rfl
    | 3, _ => rfl
    | 4, _ => rfl
    | 5, _ => rfl
  clear hown' hgrow O4 A4 K4 hi hz0 hz1 hz2 hWN nXN c0 c1 c2 c3 c4 c5 c6 c7 hlX
  go_wp2_with fail
  have q0 := Q0.out
  have q1 := Q1.out
  have q2 := Q2.out
  have q3 := Q3.out
  have q4 := Q4.out
  have q5 := Q5.out
  generalize hL : [r.s.p, r.s.l, r.s.n, r.kind, r.flags, r.exp] = L at *
  have HX : Hid (∀ k (hk : k < L.length), 0 ≤ L[k] ∧ L[k] < 4611686018427387904) := by
    subst hL
    intro k hk
    match k, hk with
    | 0, _ => exact q0
    | 1, _ => exact q1
    | 2, _ => exact q2
    | 3, _ => exact q3
    | 4, _ => exact q4
    | 5, _ => exact q5
  have HLen : Hid (L.length = 6) := by subst hL; rfl
  have HCat : Hid (cat L = encI r.s.p ++ encI r.s.l ++ encI r.s.n ++ encI r.kind ++ encI r.flags ++ encI r.exp) := by show _ = _; subst hL; simp [cat, app_nil, ByteArray.append_assoc]
  clear hL q0 q1 q2 q3 q4 q5
  go_loopw [4, 6, 7, 8, 43] (fun sv iv bv ev jv wr => ∃ k : Nat, ∃ S : ByteArray, k ≤ 6 ∧ jv = .int .i64 k ∧ sv = .string S ∧ S.size ≤ 300 + 8 * k ∧ Hid (S = E0 ++ cat (L.take k)) ∧ Hid (Kept w3 wr)) (fun _ _ _ _ jv _ => 6 - (intOf jv).toNat)
  case atStart => exact ⟨0, E0, Nat.zero_le _, rfl, rfl, by omega, by show _ = _; simp [cat, app_nil], kept_refl w3⟩
  case round =>
    obtain ⟨k, S, hk, rfl, rfl, hS, HS, HK⟩ := hrel
    by_cases hlt : k < 6
    · have hk' : k < L.length := by rw [HLen.out]; exact hlt
      have hcell := (kept_cell HK.out HB.out).trans (HC.out k hk')
      have hx := HX.out k hk'
      have HS2 : Hid (S ++ encI L[k] = E0 ++ cat (L.take (k + 1))) := by
        show _ = _
        rw [List.take_succ_eq_append_getElem hk', cat_snoc, HS.out, ByteArray.append_assoc]
      have hsz := encI_size L[k]
      have hN := refNum_any L[k] hx
      generalize L[k] = x at *
      generalize encI x = E at *
      have hS2 : S.size ≤ 400 := by omega
      clear hx
      go_wp2_with fail
      refine (hN _).mono ?_
      rintro e w5 ⟨rfl, k5⟩
      have HK5 := hid (kept_trans HK.out k5)
      clear k5 hN hcell
      go_wp2_with fail
      go_roundw
      case rel => exact ⟨k + 1, S ++ E, by omega, by go_num, rfl, by rw [ByteArray.size_append]; omega, HS2, HK5⟩
      case measure => simp [intOf]; omega
    · obtain ⟨c0, c1, c2, c3, c4, c5, c6, c7⟩ := at_cells8' (at_kept A3.out HK.out)
      have KW := kept_trans K3.out HK.out
      have HS2 : Hid (S = E0 ++ (encI r.s.p ++ encI r.s.l ++ encI r.s.n ++ encI r.kind ++ encI r.flags ++ encI r.exp)) := by
        show _ = _
        rw [HS.out, List.take_of_length_le (by rw [HLen.out]; omega), HCat.out]
      have hS2 : S.size ≤ 400 := by omega
      go_wp2_with fail
      refine (hT7 _).mono ?_
      rintro e w6 ⟨rfl, k6⟩
      have KW2 := kept_trans KW k6
      clear k6 KW c0 c1 c2 c3 c4 c5 c6 c7
      go_wp2_with fail
      go_ret2
      exact ⟨by rw [HP.out, HS2.out]; simp only [ByteArray.append_assoc]; rfl, KW2⟩
theorem refPutR_any (r : R) (hr : r.ok) (w : World) :
    Calls Tryz.prog 69 #[.agg #[.string r.key, .int .u64 r.s.p, .int .u32 r.s.l, .int .u8 r.s.n, .int .u8 r.kind, .int .u32 r.flags, .int .u64 r.exp, .string r.body]] w fun e w' => e = .returned (putV r) ∧ Kept w w' := by
  unfold putV
  by_cases h : mayR r = true
  · rw [if_pos h]
    by_cases h3 : r.kind = 3
    · exact refPut_value r hr h h3 w
    · exact refPut_other r hr h h3 w
  · rw [if_neg h]
    exact refPut_bad r hr (by simpa using h) w
end Go.Proofs.YtioeidhblbfgmaaGreat
