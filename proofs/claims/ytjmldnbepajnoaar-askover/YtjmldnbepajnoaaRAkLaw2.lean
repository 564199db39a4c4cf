/- The walk of AskOnce, out of what the landed requests must answer. -/
import Derived.Test.YtjmldnbepajnoaaRAkDuo
import Derived.Deep.CutBlock
import Derived.Deep.DeepCutAuto
namespace Go.Proofs.YtjmldnbepajnoaaR
open Go.ChangeShapes Go.WideShapes Go.ChangeAt Go.RowKit
set_option linter.unusedVariables false
set_option linter.unusedSimpArgs false
set_option maxRecDepth 100000

/- Two new requests and two maps. -/
theorem d2_new {T : Shape Aq} (hT : AskIs T) {W w1 w2 : World} {X Y : Nat} {q p : Aq} {F G : Nat → Prop} (x : TT T W X q F w1) (y : TT T W Y p G w2) (k : Kept w1 w2) (hg : ∀ b, G b → w1.heap.size ≤ b) : D2 T W X Y w2.heap.size (w2.alloc (.map #[] 0)).heap.size q p F G (setG []) (setG []) ((w2.alloc (.map #[] 0)).alloc (.map #[] 0)) := by
  have k1 := kept_alloc (kept_refl w2) (.map #[] 0)
  have k2 := kept_alloc (kept_refl (w2.alloc (.map #[] 0))) (.map #[] 0)
  have m1 : Gd' mapB (w2.alloc (.map #[] 0)) w2.heap.size (fun _ => none) := gd_made w2
  have m2 : Gd' mapB ((w2.alloc (.map #[] 0)).alloc (.map #[] 0)) (w2.alloc (.map #[] 0)).heap.size (fun _ => none) := gd_made _
  have x2 := tt_kept hT.obj x k
  have x3 := tt_kept hT.obj x2 k1
  have y3 := tt_kept hT.obj y k1
  have l1 := gm_lt m1
  have l2 := gm_lt m2
  refine ⟨tt_kept hT.obj x3 k2, tt_kept hT.obj y3 k2, fun b hb hgb => ?_, by rw [setG_nil]; exact gd_kept m1 k2, by rw [setG_nil]; exact m2, off_kept (off_new hT.obj x2 (Nat.le_refl _) l1) k2, off_new hT.obj x3 (Nat.le_refl _) l2, off_kept (off_new hT.obj y (Nat.le_refl _) l1) k2, off_new hT.obj y3 (Nat.le_refl _) l2, by omega, y.k.2, y3.k.2⟩
  have h1 := hT.obj.lt x.t hb
  have h2 := hg b hgb
  omega
set_option maxHeartbeats 12800000 in
theorem once_walk {T : Shape Aq} (hT : AskIs T) (l : List Int) (ops again : List Opn) (key : ByteArray) (v v1 v2 : Value) (w : World) (h8 : U8 l) (h : Rg encU 1 w v l) (hl1 : ∀ o ∈ ops, OpOk o) (h1 : Rg encO 11 w v1 ops) (hl2 : ∀ o ∈ again, OpOk o) (h2 : Rg encO 11 w v2 again) : Calls Try.prog 4 #[v, v1, v2, .string key] w fun e w' => e = .returned (.bool true) ∧ Kept w w' := by
  have HT := hid hT
  have HF := hid (fun u => fixed_any hT u)
  have HR := hid h
  have H8 := hid h8
  obtain ⟨a, cap, rfl, hc1, hc2, -, -⟩ := h
  unfold maxLen at hc2
  have HG : Hid (∀ i : Nat, i < l.length → ∃ y, l[i]? = some y) := hid (fun i hi => ⟨l[i], List.getElem?_eq_getElem hi⟩)
  have HP : Hid (0 < l.length → ∃ g o, a = some ⟨g, o, none⟩) := hid (fun hp => by
    obtain ⟨g, o, c, e⟩ := rg_pos HR.out hp
    injection e with e1
    exact ⟨g, o, e1⟩)
  have HTT : Hid (l.take l.length = l) := hid List.take_length
  have hmm := @run_makeMap Try.prog
  obtain ⟨a1, cp1, e1, -, -⟩ := rg_is h1
  obtain ⟨a2, cp2, e2, -, -⟩ := rg_is h2
  have HC := hid (fun (hk : key.size ≤ 1000) (u : World) (ku : Kept w u) => And.intro (cut_any ops hl1 key hk v1 u (rg_kept encO_ok h1 ku)) (cut_any again hl2 key hk v2 u (rg_kept encO_ok h2 ku)))
  subst e1 e2
  generalize hm : l.length = m at *
  have HM := hid hm
  clear hT hm h8 hl1 h1 hl2 h2
  by_cases hb0 : 100 < m
  · have d0 : decide ((100 : Int) < (m : Int)) = true := by simp; omega
    have e0 : (100 : Int) < (m : Int) := by omega
    go_enter Try.func4, Try.ntmps4
    go_wp2_with fail
    refine (HF.out w).mono ?_
    rintro e w2 ⟨rfl, k2⟩
    have HK2 := hid k2
    clear k2
    go_wp2_with fail
    go_ret
    exact ⟨rfl, HK2.out⟩
  have d0 : decide ((100 : Int) < (m : Int)) = false := by simp; omega
  have e0 : ¬ (100 : Int) < (m : Int) := by omega
  by_cases hb1 : 1000 < key.size
  · have d1 : (1000 : Int) < (key.size : Int) := by omega
    go_enter Try.func4, Try.ntmps4
    go_wp2_with fail
    refine (HF.out w).mono ?_
    rintro e w2 ⟨rfl, k2⟩
    have HK2 := hid k2
    clear k2
    go_wp2_with fail
    go_ret
    exact ⟨rfl, HK2.out⟩
  have d1 : decide ((1000 : Int) < (key.size : Int)) = false := by simp; omega
  have e1 : ¬ (1000 : Int) < (key.size : Int) := by omega
  have HKs : Hid (key.size ≤ 1000) := hid (by omega)
  have hm100 : m ≤ 100 := by omega
  have hN1 := ak_new (W := w) (u := 9) HT.out (kept_refl w) H8.out (by rw [HM.out]; exact hm100) (by unfold inU64; decide) HR.out
  have HN2 := hid (fun (u : World) (ku : Kept w u) => ak_new (W := w) (u := 9) HT.out ku H8.out (by rw [HM.out]; exact hm100) (by unfold inU64; decide) (rg_kept encU_ok HR.out ku))
  have HFi0 : Hid (Fi key l [] (newQ l 9)) := hid (fi_new (by rw [HM.out]; exact hm100) H8.out (by unfold inU64; decide))
  clear hb0 hb1
  go_enter Try.func4, Try.ntmps4
  go_wp2_with fail
  refine hN1.mono ?_
  rintro e w1 ⟨X, F, rfl, t1, -, -⟩
  have HT1 := hid t1
  have hN2 := HN2.out w1 t1.k
  clear hN1 t1 d1 e1
  go_wp2_with fail
  refine hN2.mono ?_
  rintro e w2 ⟨Y, G, rfl, t2, k2, hg2⟩
  have HD0 := hid (d2_new HT.out HT1.out t2 k2 hg2)
  clear hN2 t2 k2 hg2 HT1 HN2
  go_wp2_with fail
  have hsz : (w2.alloc (.map #[] 0)).heap.size = w2.heap.size + 1 := by show (w2.heap.push _).size = _; simp
  rw [hsz] at HD0
  generalize (w2.alloc (.map #[] 0)).alloc (.map #[] 0) = w3 at *
  generalize w2.heap.size + 1 = S2 at *
  generalize w2.heap.size = S1 at *
  clear hsz
  go_loopw [52] (fun iv wr => ∃ i : Nat, i ≤ m ∧ iv = .int .i64 (i : Int) ∧ Hid (D2 T w X Y S1 S2 (newQ l 9) (newQ l 9) F G (setG []) (setG (l.take i)) wr)) (fun iv _ => m - (intOf iv).toNat)
  case atStart => exact ⟨0, Nat.zero_le _, rfl, HD0⟩
  case round =>
    obtain ⟨i, hi, rfl, HDr⟩ := hrel
    clear HD0
    by_cases hlt : i < m
    · have hltz : (i : Int) < (m : Int) := by omega
      obtain ⟨y, hy⟩ := HG.out i hlt
      obtain ⟨g, oo, rfl⟩ := HP.out (by omega)
      have c0 := rg_U (rg_kept encU_ok HR.out HDr.out.x.k) hy
      have hyk : okU y := H8.out y (List.mem_of_getElem? hy)
      obtain ⟨w4, hput, hd4, ht4⟩ := put_B HDr.out.m2 hyk
      rw [setG_put, ← take_next hy] at hd4
      have HD4 := hid (d2_put2 HT.out HDr.out hd4 ht4)
      clear hy hyk hd4 ht4
      go_wp2_with fail
      go_roundw
      case rel => exact ⟨i + 1, by omega, by go_num, HD4⟩
      case measure => simp [intOf]; omega
    · have hltz : ¬ (i : Int) < (m : Int) := by omega
      obtain rfl : i = m := by omega
      have hd := HDr.out
      rw [HTT.out] at hd
      have HD5 := hid hd
      have hC := (HC.out HKs.out wr HD5.out.x.k).1
      clear hd HDr hltz hlt
      go_wp2_with fail
      refine hC.mono ?_
      rintro e w5 ⟨r1, L1, rfl, o1, hL1, hcu1, k5⟩
      have HR5 := hid (ap2_new HT.out HD5.out.x HD5.out.y o1)
      have HD6 := hid (d2_kept HT.out HD5.out k5)
      have HCu1 := hid hcu1
      obtain ⟨ra, rc, rfl, hrc1, hrc2⟩ := og_is encO_ok o1
      unfold maxLen at hrc2
      have HG1 : Hid (∀ j : Nat, j < L1.length → ∃ y, L1[j]? = some y) := hid (fun j hj => ⟨L1[j], List.getElem?_eq_getElem hj⟩)
      have HP1 : Hid (0 < L1.length → ∃ g o, ra = some ⟨g, o, none⟩) := hid (fun hp => by
        obtain ⟨g, o, c, e⟩ := rg_pos HR5.out.1 hp
        injection e with e1
        exact ⟨g, o, e1⟩)
      have HT1 : Hid (L1.take L1.length = L1) := hid List.take_length
      have hz := zeroOv
      generalize hk1 : L1.length = k1 at *
      have HD7 : Hid (D2 T w X Y S1 S2 (newQ l 9) (newQ l 9) F G (setG (nodesL (L1.take 0))) (setG l) w5) := hid (by rw [List.take_zero]; exact HD6.out)
      have HFi1 : Hid (Fi key l (L1.take 0) (newQ l 9)) := hid (by rw [List.take_zero]; exact HFi0.out)
      clear o1 hcu1 k5 hC HD5 HD6 HFi0 hk1
      go_wp2_with fail
      go_loopw [63] (fun jv wx => ∃ (j : Nat) (q : Aq) (F2 G2 : Nat → Prop), j ≤ k1 ∧ jv = .int .i64 (j : Int) ∧ Hid (Fi key l (L1.take j) q) ∧ Hid (D2 T w X Y S1 S2 q q F2 G2 (setG (nodesL (L1.take j))) (setG l) wx) ∧ Hid (Rg encO 11 wx (.slice ra k1 rc) L1 ∧ Ap2 wx F2 G2 (.slice ra k1 rc) L1)) (fun jv _ => k1 - (intOf jv).toNat)
      case atStart => exact ⟨0, _, F, G, Nat.zero_le _, rfl, HFi1, HD7, HR5⟩
      case round =>
        obtain ⟨j, q, F2, G2, hj, rfl, HFj, HDj, HRj⟩ := hrel
        clear HFi1 HD7 HR5
        have HQ : Hid (OneK q) := hid (one_of HFj.out)
        by_cases hjl : j < k1
        · have hjz : (j : Int) < (k1 : Int) := by omega
          obtain ⟨o, ho⟩ := HG1.out j hjl
          obtain ⟨g, oo, rfl⟩ := HP1.out (by omega)
          obtain ⟨c0, c1, c2, c3, c4, c5, c6, c7, c8, c9, c10⟩ := rg_O HRj.out.1 ho
          obtain ⟨hno, hxo, hko⟩ := HCu1.out o (List.mem_of_getElem? ho)
          have HNo := hid hno
          have HXo := hid hxo
          have HNn : Hid (nodesL (L1.take (j + 1)) = nodesL (L1.take j) ++ [o.node]) := hid (by rw [take_next ho, nodes_next])
          have HFn := hid (fi_take HFj.out hno hxo hko)
          rw [← take_next ho] at HFn
          have HMy := hid (fi_may HFj.out hno)
          have HZ := hid (at_new wr #[.int .u8 o.node, .bool o.x.has, .bool o.x.past, .string o.x.r.key, .int .u64 o.x.r.s.p, .int .u32 o.x.r.s.l, .int .u8 o.x.r.s.n, .int .u8 o.x.r.kind, .int .u32 o.x.r.flags, .int .u64 o.x.r.exp, .string o.x.r.body] 36)
          have ka := kept_alloc (kept_refl wr) (.cells #[.int .u8 o.node, .bool o.x.has, .bool o.x.past, .string o.x.r.key, .int .u64 o.x.r.s.p, .int .u32 o.x.r.s.l, .int .u8 o.x.r.s.n, .int .u8 o.x.r.kind, .int .u32 o.x.r.flags, .int .u64 o.x.r.exp, .string o.x.r.body] 36)
          have HDa := hid (d2_kept HT.out HDj.out ka)
          have HRa := hid (ap2_kept HRj.out ka)
          have HOa : Hid (Off (wr.alloc (.cells #[.int .u8 o.node, .bool o.x.has, .bool o.x.past, .string o.x.r.key, .int .u64 o.x.r.s.p, .int .u32 o.x.r.s.l, .int .u8 o.x.r.s.n, .int .u8 o.x.r.kind, .int .u32 o.x.r.flags, .int .u64 o.x.r.exp, .string o.x.r.body] 36)) F2 wr.heap.size ∧ Off (wr.alloc (.cells #[.int .u8 o.node, .bool o.x.has, .bool o.x.past, .string o.x.r.key, .int .u64 o.x.r.s.p, .int .u32 o.x.r.s.l, .int .u8 o.x.r.s.n, .int .u8 o.x.r.kind, .int .u32 o.x.r.flags, .int .u64 o.x.r.exp, .string o.x.r.body] 36)) G2 wr.heap.size) := hid ⟨off_new HT.out.obj HDj.out.x (Nat.le_refl _) (at_lt HZ.out), off_new HT.out.obj HDj.out.y (Nat.le_refl _) (at_lt HZ.out)⟩
          clear ho hno hxo hko ka HDj HRj
          go_upto_region 16 with fail
          generalize wr.alloc (.cells #[.int .u8 o.node, .bool o.x.has, .bool o.x.past, .string o.x.r.key, .int .u64 o.x.r.s.p, .int .u32 o.x.r.s.l, .int .u8 o.x.r.s.n, .int .u8 o.x.r.kind, .int .u32 o.x.r.flags, .int .u64 o.x.r.exp, .string o.x.r.body] 36) = wa at *
          generalize wr.heap.size = Zo at *
          clear c0 c1 c2 c3 c4 c5 c6 c7 c8 c9 c10
          have kd : Kept wa wa.drew := kept_drew (kept_refl wa)
          have HDd := hid (d2_kept HT.out HDa.out kd)
          have HRd := hid (ap2_kept HRa.out kd)
          have HZd := hid (at_kept HZ.out kd)
          have HOz : Hid (Off wa.drew F2 Zo ∧ Off wa.drew G2 Zo) := hid ⟨off_kept HOa.out.1 kd, off_kept HOa.out.2 kd⟩
          have hTk := ak_take HT.out HDd.out.x HQ.out HNo.out HXo.out
          rw [HMy.out] at hTk
          have hl2 := look_B HDd.out.m2 HNo.out
          have hl1 := look_B HDd.out.m1 HNo.out
          rw [setG_get] at hl1 hl2
          obtain ⟨bs, hbs⟩ : ∃ b, inL l o.node = b := ⟨_, rfl⟩
          obtain ⟨fi, hfi⟩ : ∃ b, inL (nodesL (L1.take j)) o.node = b := ⟨_, rfl⟩
          rw [hbs, hfi] at hTk
          rw [hbs] at hl2
          rw [hfi] at hl1
          have HAs := hid hbs
          have HFi := hid hfi
          obtain ⟨y0, y1, y2, y3, y4, y5, y6, y7, y8, y9, y10⟩ := cells11 HZd.out
          have hS := And.intro y0 (And.intro y1 (And.intro y2 (And.intro y3 (And.intro y4 (And.intro y5 (And.intro y6 (And.intro y7 (And.intro y8 (And.intro y9 (And.intro y10 (And.intro hl2 hl1)))))))))))
          clear kd hl1 hl2 hbs hfi y0 y1 y2 y3 y4 y5 y6 y7 y8 y9 y10 HDa HRa HZ HOa
          cases bs with
          | false =>
            rw [show (false && !fi) = false from rfl] at hTk
            refine wp_region_noPanic ?_
            refine wp_region_held_drew (S := (fun w' => (w'.cell? ⟨Zo, 0, none⟩ = some (.int .u8 o.node)) ∧ (w'.cell? ⟨Zo, 1, none⟩ = some (.bool o.x.has)) ∧ (w'.cell? ⟨Zo, 2, none⟩ = some (.bool o.x.past)) ∧ (w'.cell? ⟨Zo, 3, none⟩ = some (.string o.x.r.key)) ∧ (w'.cell? ⟨Zo, 4, none⟩ = some (.int .u64 o.x.r.s.p)) ∧ (w'.cell? ⟨Zo, 5, none⟩ = some (.int .u32 o.x.r.s.l)) ∧ (w'.cell? ⟨Zo, 6, none⟩ = some (.int .u8 o.x.r.s.n)) ∧ (w'.cell? ⟨Zo, 7, none⟩ = some (.int .u8 o.x.r.kind)) ∧ (w'.cell? ⟨Zo, 8, none⟩ = some (.int .u32 o.x.r.flags)) ∧ (w'.cell? ⟨Zo, 9, none⟩ = some (.int .u64 o.x.r.exp)) ∧ (w'.cell? ⟨Zo, 10, none⟩ = some (.string o.x.r.body)) ∧ ((Instr.lookup 26 (.map (some S2)) (.int .u8 o.node) false).run Try.prog w' = .ok (.bool false) w') ∧ ((Instr.lookup 26 (.map (some S1)) (.int .u8 o.node) false).run Try.prog w' = .ok (.bool fi) w'))) (by kernel_rfl) (hS) (fun hHeld => ?_)
            generalize wa.drew = wd at *
            refine wpAnyH_take (i := 0) (v := .pointer (some ⟨X, 0, none⟩)) rfl (by kernel_rfl) (by kernel_rfl) (by kernel_rfl) (fun _ _ _ h => h) (Or.inl ⟨by rfl, fun w hSw => by (try dsimp only at hSw); go_simp⟩) (by assumption) ?_
            try simp only [List.getElem_toArray, List.getElem_cons_zero, List.getElem_cons_succ, Act.put, List.setIfInBounds_toArray, List.set_cons_zero, List.set_cons_succ]
            refine wpAnyH_take (i := 1) (v := .pointer (some ⟨Zo, 0, none⟩)) rfl (by kernel_rfl) (by kernel_rfl) (by kernel_rfl) (fun _ _ _ h => h) (Or.inl ⟨by rfl, fun w hSw => by (try dsimp only at hSw); go_simp⟩) (by assumption) ?_
            try simp only [List.getElem_toArray, List.getElem_cons_zero, List.getElem_cons_succ, Act.put, List.setIfInBounds_toArray, List.set_cons_zero, List.set_cons_succ]
            refine wpAnyH_take (i := 2) (v := .int .u8 o.node) rfl (by kernel_rfl) (by kernel_rfl) (by kernel_rfl) (fun _ _ _ h => h) (Or.inl ⟨by rfl, fun w hSw => by (try dsimp only at hSw); go_simp⟩) (by assumption) ?_
            try simp only [List.getElem_toArray, List.getElem_cons_zero, List.getElem_cons_succ, Act.put, List.setIfInBounds_toArray, List.set_cons_zero, List.set_cons_succ]
            refine wpAnyH_take (i := 3) (v := .pointer (some ⟨Zo, 1, none⟩)) rfl (by kernel_rfl) (by kernel_rfl) (by kernel_rfl) (fun _ _ _ h => h) (Or.inl ⟨by rfl, fun w hSw => by (try dsimp only at hSw); go_simp⟩) (by assumption) ?_
            try simp only [List.getElem_toArray, List.getElem_cons_zero, List.getElem_cons_succ, Act.put, List.setIfInBounds_toArray, List.set_cons_zero, List.set_cons_succ]
            refine wpAnyH_take (i := 4) (v := .agg #[.bool o.x.has, .bool o.x.past, .string o.x.r.key, .int .u64 o.x.r.s.p, .int .u32 o.x.r.s.l, .int .u8 o.x.r.s.n, .int .u8 o.x.r.kind, .int .u32 o.x.r.flags, .int .u64 o.x.r.exp, .string o.x.r.body]) rfl (by kernel_rfl) (by kernel_rfl) (by kernel_rfl) (fun _ _ _ h => h) (Or.inl ⟨by rfl, fun w hSw => by (try dsimp only at hSw); go_simp⟩) (by assumption) ?_
            try simp only [List.getElem_toArray, List.getElem_cons_zero, List.getElem_cons_succ, Act.put, List.setIfInBounds_toArray, List.set_cons_zero, List.set_cons_succ]
            refine wpAnyH_take (i := 6) (v := .map (some S2)) rfl (by kernel_rfl) (by kernel_rfl) (by kernel_rfl) (fun _ _ _ h => h) (Or.inl ⟨by rfl, fun w hSw => by (try dsimp only at hSw); go_simp⟩) (by assumption) ?_
            try simp only [List.getElem_toArray, List.getElem_cons_zero, List.getElem_cons_succ, Act.put, List.setIfInBounds_toArray, List.set_cons_zero, List.set_cons_succ]
            refine wpAnyH_take (i := 7) (v := .pointer (some ⟨Zo, 0, none⟩)) rfl (by kernel_rfl) (by kernel_rfl) (by kernel_rfl) (fun _ _ _ h => h) (Or.inl ⟨by rfl, fun w hSw => by (try dsimp only at hSw); go_simp⟩) (by assumption) ?_
            try simp only [List.getElem_toArray, List.getElem_cons_zero, List.getElem_cons_succ, Act.put, List.setIfInBounds_toArray, List.set_cons_zero, List.set_cons_succ]
            refine wpAnyH_take (i := 8) (v := .int .u8 o.node) rfl (by kernel_rfl) (by kernel_rfl) (by kernel_rfl) (fun _ _ _ h => h) (Or.inl ⟨by rfl, fun w hSw => by (try dsimp only at hSw); go_simp⟩) (by assumption) ?_
            try simp only [List.getElem_toArray, List.getElem_cons_zero, List.getElem_cons_succ, Act.put, List.setIfInBounds_toArray, List.set_cons_zero, List.set_cons_succ]
            refine wpAnyH_take (i := 9) (v := .bool false) rfl (by kernel_rfl) (by kernel_rfl) (by kernel_rfl) (fun _ _ _ h => h) (Or.inl ⟨by rfl, fun w hSw => by (try dsimp only at hSw); go_simp⟩) (by assumption) ?_
            try simp only [List.getElem_toArray, List.getElem_cons_zero, List.getElem_cons_succ, Act.put, List.setIfInBounds_toArray, List.set_cons_zero, List.set_cons_succ]
            refine wpAnyH_ready (rs := [5]) (by kernel_rfl) (by simp) ?_
            refine AllReadyH.cons (i := 5) rfl (fun K hK => ?_) AllReadyH.nil
            go_simp
            refine (hTk).mono ?_
            rintro e w6 ⟨F6, rfl, t6, d6⟩
            have HD6 := hid (d2_x HT.out HDd.out t6 d6)
            have HR6 := hid (ap2_x HRd.out d6)
            have HZ6 := hid (at_sd HZd.out HOz.out.1 d6)
            have HOz6 : Hid (Off w6 G2 Zo) := hid (off_other HOz.out.2 d6)
            have hl2 := look_B HD6.out.m2 HNo.out
            have hl1 := look_B HD6.out.m1 HNo.out
            rw [setG_get, HAs.out] at hl2
            rw [setG_get, HFi.out] at hl1
            obtain ⟨y0, y1, y2, y3, y4, y5, y6, y7, y8, y9, y10⟩ := cells11 HZ6.out
            have hS := And.intro y0 (And.intro y1 (And.intro y2 (And.intro y3 (And.intro y4 (And.intro y5 (And.intro y6 (And.intro y7 (And.intro y8 (And.intro y9 (And.intro y10 (And.intro hl2 hl1)))))))))))
            clear t6 d6 hTk hl1 hl2 y0 y1 y2 y3 y4 y5 y6 y7 y8 y9 y10
            clear hHeld
            show K _ _
            refine hK.out _ _ (hS) (fun hHeld => ?_)
            clear hK K
            try simp only [List.getElem_toArray, List.getElem_cons_zero, List.getElem_cons_succ, Act.put, List.setIfInBounds_toArray, List.set_cons_zero, List.set_cons_succ]
            refine wpAnyH_take (i := 10) (v := .bool false) rfl (by kernel_rfl) (by kernel_rfl) (by kernel_rfl) (fun _ _ _ h => h) (Or.inl ⟨by rfl, fun w hSw => by (try dsimp only at hSw); go_simp⟩) (by assumption) ?_
            try simp only [List.getElem_toArray, List.getElem_cons_zero, List.getElem_cons_succ, Act.put, List.setIfInBounds_toArray, List.set_cons_zero, List.set_cons_succ]
            refine wpAnyH_take (i := 11) (v := undef) rfl (by kernel_rfl) (by kernel_rfl) (by kernel_rfl) (fun _ _ _ h => h) (Or.inr ⟨by rfl, rfl⟩) (by assumption) ?_
            try simp only [List.getElem_toArray, List.getElem_cons_zero, List.getElem_cons_succ, Act.put, List.setIfInBounds_toArray, List.set_cons_zero, List.set_cons_succ]
            refine wpAnyH_take (i := 12) (v := undef) rfl (by kernel_rfl) (by kernel_rfl) (by kernel_rfl) (fun _ _ _ h => h) (Or.inr ⟨by rfl, rfl⟩) (by assumption) ?_
            try simp only [List.getElem_toArray, List.getElem_cons_zero, List.getElem_cons_succ, Act.put, List.setIfInBounds_toArray, List.set_cons_zero, List.set_cons_succ]
            refine wpAnyH_take (i := 13) (v := undef) rfl (by kernel_rfl) (by kernel_rfl) (by kernel_rfl) (fun _ _ _ h => h) (Or.inr ⟨by rfl, rfl⟩) (by assumption) ?_
            try simp only [List.getElem_toArray, List.getElem_cons_zero, List.getElem_cons_succ, Act.put, List.setIfInBounds_toArray, List.set_cons_zero, List.set_cons_succ]
            refine wpAnyH_take (i := 14) (v := undef) rfl (by kernel_rfl) (by kernel_rfl) (by kernel_rfl) (fun _ _ _ h => h) (Or.inr ⟨by rfl, rfl⟩) (by assumption) ?_
            try simp only [List.getElem_toArray, List.getElem_cons_zero, List.getElem_cons_succ, Act.put, List.setIfInBounds_toArray, List.set_cons_zero, List.set_cons_succ]
            refine wpAnyH_take (i := 15) (v := undef) rfl (by kernel_rfl) (by kernel_rfl) (by kernel_rfl) (fun _ _ _ h => h) (Or.inr ⟨by rfl, rfl⟩) (by assumption) ?_
            try simp only [List.getElem_toArray, List.getElem_cons_zero, List.getElem_cons_succ, Act.put, List.setIfInBounds_toArray, List.set_cons_zero, List.set_cons_succ]
            refine wpAnyH_take (i := 16) (v := .bool false) rfl (by kernel_rfl) (by kernel_rfl) (by kernel_rfl) (fun _ _ _ h => h) (Or.inl ⟨by rfl, fun w hSw => by (try dsimp only at hSw); go_simp⟩) (by assumption) ?_
            try simp only [List.getElem_toArray, List.getElem_cons_zero, List.getElem_cons_succ, Act.put, List.setIfInBounds_toArray, List.set_cons_zero, List.set_cons_succ]
            refine wpAnyH_take (i := 17) (v := .bool false) rfl (by kernel_rfl) (by kernel_rfl) (by kernel_rfl) (fun _ _ _ h => h) (Or.inl ⟨by rfl, fun w hSw => by (try dsimp only at hSw); go_simp⟩) (by assumption) ?_
            try simp only [List.getElem_toArray, List.getElem_cons_zero, List.getElem_cons_succ, Act.put, List.setIfInBounds_toArray, List.set_cons_zero, List.set_cons_succ]
            refine wpAnyH_done (by kernel_rfl) ?_ _
            refine NoPanic.normal ?_
            clear hHeld hS
            have hTy := ak_take HT.out HD6.out.y HQ.out HNo.out HXo.out
            obtain ⟨y0, y1, y2, y3, y4, y5, y6, y7, y8, y9, y10⟩ := cells11 HZ6.out
            go_wp2_with fail
            refine hTy.mono ?_
            rintro e w7 ⟨G7, rfl, t7, d7⟩
            have HD7 := hid (d2_y HT.out HD6.out t7 d7)
            have HR7 := hid (ap2_y HR6.out d7)
            have HZ7 := hid (at_sd HZ6.out HOz6.out d7)
            clear hTy t7 d7 y0 y1 y2 y3 y4 y5 y6 y7 y8 y9 y10
            obtain ⟨w8, hput, hd8, ht8⟩ := put_B HD7.out.m1 HNo.out
            rw [setG_put, ← HNn.out] at hd8
            have HD8 := hid (d2_put1 HT.out HD7.out hd8 ht8)
            have HR8 := hid (ap2_turned HR7.out ht8)
            obtain ⟨y0, y1, y2, y3, y4, y5, y6, y7, y8, y9, y10⟩ := cells11 HZ7.out
            clear hd8 ht8
            go_wp2_with fail
            go_roundw
            case rel => exact ⟨j + 1, _, F6, G7, by omega, by go_num, HFn, HD8, HR8⟩
            case measure => simp [intOf]; omega
          | true =>
            cases fi with
            | true =>
              rw [show (true && !true) = false from rfl] at hTk
              refine wp_region_noPanic ?_
              refine wp_region_held_drew (S := (fun w' => (w'.cell? ⟨Zo, 0, none⟩ = some (.int .u8 o.node)) ∧ (w'.cell? ⟨Zo, 1, none⟩ = some (.bool o.x.has)) ∧ (w'.cell? ⟨Zo, 2, none⟩ = some (.bool o.x.past)) ∧ (w'.cell? ⟨Zo, 3, none⟩ = some (.string o.x.r.key)) ∧ (w'.cell? ⟨Zo, 4, none⟩ = some (.int .u64 o.x.r.s.p)) ∧ (w'.cell? ⟨Zo, 5, none⟩ = some (.int .u32 o.x.r.s.l)) ∧ (w'.cell? ⟨Zo, 6, none⟩ = some (.int .u8 o.x.r.s.n)) ∧ (w'.cell? ⟨Zo, 7, none⟩ = some (.int .u8 o.x.r.kind)) ∧ (w'.cell? ⟨Zo, 8, none⟩ = some (.int .u32 o.x.r.flags)) ∧ (w'.cell? ⟨Zo, 9, none⟩ = some (.int .u64 o.x.r.exp)) ∧ (w'.cell? ⟨Zo, 10, none⟩ = some (.string o.x.r.body)) ∧ ((Instr.lookup 26 (.map (some S2)) (.int .u8 o.node) false).run Try.prog w' = .ok (.bool true) w') ∧ ((Instr.lookup 26 (.map (some S1)) (.int .u8 o.node) false).run Try.prog w' = .ok (.bool true) w'))) (by kernel_rfl) (hS) (fun hHeld => ?_)
              generalize wa.drew = wd at *
              refine wpAnyH_take (i := 0) (v := .pointer (some ⟨X, 0, none⟩)) rfl (by kernel_rfl) (by kernel_rfl) (by kernel_rfl) (fun _ _ _ h => h) (Or.inl ⟨by rfl, fun w hSw => by (try dsimp only at hSw); go_simp⟩) (by assumption) ?_
              try simp only [List.getElem_toArray, List.getElem_cons_zero, List.getElem_cons_succ, Act.put, List.setIfInBounds_toArray, List.set_cons_zero, List.set_cons_succ]
              refine wpAnyH_take (i := 1) (v := .pointer (some ⟨Zo, 0, none⟩)) rfl (by kernel_rfl) (by kernel_rfl) (by kernel_rfl) (fun _ _ _ h => h) (Or.inl ⟨by rfl, fun w hSw => by (try dsimp only at hSw); go_simp⟩) (by assumption) ?_
              try simp only [List.getElem_toArray, List.getElem_cons_zero, List.getElem_cons_succ, Act.put, List.setIfInBounds_toArray, List.set_cons_zero, List.set_cons_succ]
              refine wpAnyH_take (i := 2) (v := .int .u8 o.node) rfl (by kernel_rfl) (by kernel_rfl) (by kernel_rfl) (fun _ _ _ h => h) (Or.inl ⟨by rfl, fun w hSw => by (try dsimp only at hSw); go_simp⟩) (by assumption) ?_
              try simp only [List.getElem_toArray, List.getElem_cons_zero, List.getElem_cons_succ, Act.put, List.setIfInBounds_toArray, List.set_cons_zero, List.set_cons_succ]
              refine wpAnyH_take (i := 3) (v := .pointer (some ⟨Zo, 1, none⟩)) rfl (by kernel_rfl) (by kernel_rfl) (by kernel_rfl) (fun _ _ _ h => h) (Or.inl ⟨by rfl, fun w hSw => by (try dsimp only at hSw); go_simp⟩) (by assumption) ?_
              try simp only [List.getElem_toArray, List.getElem_cons_zero, List.getElem_cons_succ, Act.put, List.setIfInBounds_toArray, List.set_cons_zero, List.set_cons_succ]
              refine wpAnyH_take (i := 4) (v := .agg #[.bool o.x.has, .bool o.x.past, .string o.x.r.key, .int .u64 o.x.r.s.p, .int .u32 o.x.r.s.l, .int .u8 o.x.r.s.n, .int .u8 o.x.r.kind, .int .u32 o.x.r.flags, .int .u64 o.x.r.exp, .string o.x.r.body]) rfl (by kernel_rfl) (by kernel_rfl) (by kernel_rfl) (fun _ _ _ h => h) (Or.inl ⟨by rfl, fun w hSw => by (try dsimp only at hSw); go_simp⟩) (by assumption) ?_
              try simp only [List.getElem_toArray, List.getElem_cons_zero, List.getElem_cons_succ, Act.put, List.setIfInBounds_toArray, List.set_cons_zero, List.set_cons_succ]
              refine wpAnyH_take (i := 6) (v := .map (some S2)) rfl (by kernel_rfl) (by kernel_rfl) (by kernel_rfl) (fun _ _ _ h => h) (Or.inl ⟨by rfl, fun w hSw => by (try dsimp only at hSw); go_simp⟩) (by assumption) ?_
              try simp only [List.getElem_toArray, List.getElem_cons_zero, List.getElem_cons_succ, Act.put, List.setIfInBounds_toArray, List.set_cons_zero, List.set_cons_succ]
              refine wpAnyH_take (i := 7) (v := .pointer (some ⟨Zo, 0, none⟩)) rfl (by kernel_rfl) (by kernel_rfl) (by kernel_rfl) (fun _ _ _ h => h) (Or.inl ⟨by rfl, fun w hSw => by (try dsimp only at hSw); go_simp⟩) (by assumption) ?_
              try simp only [List.getElem_toArray, List.getElem_cons_zero, List.getElem_cons_succ, Act.put, List.setIfInBounds_toArray, List.set_cons_zero, List.set_cons_succ]
              refine wpAnyH_take (i := 8) (v := .int .u8 o.node) rfl (by kernel_rfl) (by kernel_rfl) (by kernel_rfl) (fun _ _ _ h => h) (Or.inl ⟨by rfl, fun w hSw => by (try dsimp only at hSw); go_simp⟩) (by assumption) ?_
              try simp only [List.getElem_toArray, List.getElem_cons_zero, List.getElem_cons_succ, Act.put, List.setIfInBounds_toArray, List.set_cons_zero, List.set_cons_succ]
              refine wpAnyH_take (i := 9) (v := .bool true) rfl (by kernel_rfl) (by kernel_rfl) (by kernel_rfl) (fun _ _ _ h => h) (Or.inl ⟨by rfl, fun w hSw => by (try dsimp only at hSw); go_simp⟩) (by assumption) ?_
              try simp only [List.getElem_toArray, List.getElem_cons_zero, List.getElem_cons_succ, Act.put, List.setIfInBounds_toArray, List.set_cons_zero, List.set_cons_succ]
              refine wpAnyH_ready (rs := [5]) (by kernel_rfl) (by simp) ?_
              refine AllReadyH.cons (i := 5) rfl (fun K hK => ?_) AllReadyH.nil
              go_simp
              refine (hTk).mono ?_
              rintro e w6 ⟨F6, rfl, t6, d6⟩
              have HD6 := hid (d2_x HT.out HDd.out t6 d6)
              have HR6 := hid (ap2_x HRd.out d6)
              have HZ6 := hid (at_sd HZd.out HOz.out.1 d6)
              have HOz6 : Hid (Off w6 G2 Zo) := hid (off_other HOz.out.2 d6)
              have hl2 := look_B HD6.out.m2 HNo.out
              have hl1 := look_B HD6.out.m1 HNo.out
              rw [setG_get, HAs.out] at hl2
              rw [setG_get, HFi.out] at hl1
              obtain ⟨y0, y1, y2, y3, y4, y5, y6, y7, y8, y9, y10⟩ := cells11 HZ6.out
              have hS := And.intro y0 (And.intro y1 (And.intro y2 (And.intro y3 (And.intro y4 (And.intro y5 (And.intro y6 (And.intro y7 (And.intro y8 (And.intro y9 (And.intro y10 (And.intro hl2 hl1)))))))))))
              clear t6 d6 hTk hl1 hl2 y0 y1 y2 y3 y4 y5 y6 y7 y8 y9 y10
              clear hHeld
              show K _ _
              refine hK.out _ _ (hS) (fun hHeld => ?_)
              clear hK K
              try simp only [List.getElem_toArray, List.getElem_cons_zero, List.getElem_cons_succ, Act.put, List.setIfInBounds_toArray, List.set_cons_zero, List.set_cons_succ]
              refine wpAnyH_take (i := 10) (v := .bool true) rfl (by kernel_rfl) (by kernel_rfl) (by kernel_rfl) (fun _ _ _ h => h) (Or.inl ⟨by rfl, fun w hSw => by (try dsimp only at hSw); go_simp⟩) (by assumption) ?_
              try simp only [List.getElem_toArray, List.getElem_cons_zero, List.getElem_cons_succ, Act.put, List.setIfInBounds_toArray, List.set_cons_zero, List.set_cons_succ]
              refine wpAnyH_take (i := 11) (v := .map (some S1)) rfl (by kernel_rfl) (by kernel_rfl) (by kernel_rfl) (fun _ _ _ h => h) (Or.inl ⟨by rfl, fun w hSw => by (try dsimp only at hSw); go_simp⟩) (by assumption) ?_
              try simp only [List.getElem_toArray, List.getElem_cons_zero, List.getElem_cons_succ, Act.put, List.setIfInBounds_toArray, List.set_cons_zero, List.set_cons_succ]
              refine wpAnyH_take (i := 12) (v := .pointer (some ⟨Zo, 0, none⟩)) rfl (by kernel_rfl) (by kernel_rfl) (by kernel_rfl) (fun _ _ _ h => h) (Or.inl ⟨by rfl, fun w hSw => by (try dsimp only at hSw); go_simp⟩) (by assumption) ?_
              try simp only [List.getElem_toArray, List.getElem_cons_zero, List.getElem_cons_succ, Act.put, List.setIfInBounds_toArray, List.set_cons_zero, List.set_cons_succ]
              refine wpAnyH_take (i := 13) (v := .int .u8 o.node) rfl (by kernel_rfl) (by kernel_rfl) (by kernel_rfl) (fun _ _ _ h => h) (Or.inl ⟨by rfl, fun w hSw => by (try dsimp only at hSw); go_simp⟩) (by assumption) ?_
              try simp only [List.getElem_toArray, List.getElem_cons_zero, List.getElem_cons_succ, Act.put, List.setIfInBounds_toArray, List.set_cons_zero, List.set_cons_succ]
              refine wpAnyH_take (i := 14) (v := .bool true) rfl (by kernel_rfl) (by kernel_rfl) (by kernel_rfl) (fun _ _ _ h => h) (Or.inl ⟨by rfl, fun w hSw => by (try dsimp only at hSw); go_simp⟩) (by assumption) ?_
              try simp only [List.getElem_toArray, List.getElem_cons_zero, List.getElem_cons_succ, Act.put, List.setIfInBounds_toArray, List.set_cons_zero, List.set_cons_succ]
              refine wpAnyH_take (i := 15) (v := .bool false) rfl (by kernel_rfl) (by kernel_rfl) (by kernel_rfl) (fun _ _ _ h => h) (Or.inl ⟨by rfl, fun w hSw => by (try dsimp only at hSw); go_simp⟩) (by assumption) ?_
              try simp only [List.getElem_toArray, List.getElem_cons_zero, List.getElem_cons_succ, Act.put, List.setIfInBounds_toArray, List.set_cons_zero, List.set_cons_succ]
              refine wpAnyH_take (i := 16) (v := .bool false) rfl (by kernel_rfl) (by kernel_rfl) (by kernel_rfl) (fun _ _ _ h => h) (Or.inl ⟨by rfl, fun w hSw => by (try dsimp only at hSw); go_simp⟩) (by assumption) ?_
              try simp only [List.getElem_toArray, List.getElem_cons_zero, List.getElem_cons_succ, Act.put, List.setIfInBounds_toArray, List.set_cons_zero, List.set_cons_succ]
              refine wpAnyH_take (i := 17) (v := .bool false) rfl (by kernel_rfl) (by kernel_rfl) (by kernel_rfl) (fun _ _ _ h => h) (Or.inl ⟨by rfl, fun w hSw => by (try dsimp only at hSw); go_simp⟩) (by assumption) ?_
              try simp only [List.getElem_toArray, List.getElem_cons_zero, List.getElem_cons_succ, Act.put, List.setIfInBounds_toArray, List.set_cons_zero, List.set_cons_succ]
              refine wpAnyH_done (by kernel_rfl) ?_ _
              refine NoPanic.normal ?_
              clear hHeld hS
              have hTy := ak_take HT.out HD6.out.y HQ.out HNo.out HXo.out
              obtain ⟨y0, y1, y2, y3, y4, y5, y6, y7, y8, y9, y10⟩ := cells11 HZ6.out
              go_wp2_with fail
              refine hTy.mono ?_
              rintro e w7 ⟨G7, rfl, t7, d7⟩
              have HD7 := hid (d2_y HT.out HD6.out t7 d7)
              have HR7 := hid (ap2_y HR6.out d7)
              have HZ7 := hid (at_sd HZ6.out HOz6.out d7)
              clear hTy t7 d7 y0 y1 y2 y3 y4 y5 y6 y7 y8 y9 y10
              obtain ⟨w8, hput, hd8, ht8⟩ := put_B HD7.out.m1 HNo.out
              rw [setG_put, ← HNn.out] at hd8
              have HD8 := hid (d2_put1 HT.out HD7.out hd8 ht8)
              have HR8 := hid (ap2_turned HR7.out ht8)
              obtain ⟨y0, y1, y2, y3, y4, y5, y6, y7, y8, y9, y10⟩ := cells11 HZ7.out
              clear hd8 ht8
              go_wp2_with fail
              go_roundw
              case rel => exact ⟨j + 1, _, F6, G7, by omega, by go_num, HFn, HD8, HR8⟩
              case measure => simp [intOf]; omega
            | false =>
              rw [show (true && !false) = true from rfl] at hTk
              refine wp_region_noPanic ?_
              refine wp_region_held_drew (S := (fun w' => (w'.cell? ⟨Zo, 0, none⟩ = some (.int .u8 o.node)) ∧ (w'.cell? ⟨Zo, 1, none⟩ = some (.bool o.x.has)) ∧ (w'.cell? ⟨Zo, 2, none⟩ = some (.bool o.x.past)) ∧ (w'.cell? ⟨Zo, 3, none⟩ = some (.string o.x.r.key)) ∧ (w'.cell? ⟨Zo, 4, none⟩ = some (.int .u64 o.x.r.s.p)) ∧ (w'.cell? ⟨Zo, 5, none⟩ = some (.int .u32 o.x.r.s.l)) ∧ (w'.cell? ⟨Zo, 6, none⟩ = some (.int .u8 o.x.r.s.n)) ∧ (w'.cell? ⟨Zo, 7, none⟩ = some (.int .u8 o.x.r.kind)) ∧ (w'.cell? ⟨Zo, 8, none⟩ = some (.int .u32 o.x.r.flags)) ∧ (w'.cell? ⟨Zo, 9, none⟩ = some (.int .u64 o.x.r.exp)) ∧ (w'.cell? ⟨Zo, 10, none⟩ = some (.string o.x.r.body)) ∧ ((Instr.lookup 26 (.map (some S2)) (.int .u8 o.node) false).run Try.prog w' = .ok (.bool true) w') ∧ ((Instr.lookup 26 (.map (some S1)) (.int .u8 o.node) false).run Try.prog w' = .ok (.bool false) w'))) (by kernel_rfl) (hS) (fun hHeld => ?_)
              generalize wa.drew = wd at *
              refine wpAnyH_take (i := 0) (v := .pointer (some ⟨X, 0, none⟩)) rfl (by kernel_rfl) (by kernel_rfl) (by kernel_rfl) (fun _ _ _ h => h) (Or.inl ⟨by rfl, fun w hSw => by (try dsimp only at hSw); go_simp⟩) (by assumption) ?_
              try simp only [List.getElem_toArray, List.getElem_cons_zero, List.getElem_cons_succ, Act.put, List.setIfInBounds_toArray, List.set_cons_zero, List.set_cons_succ]
              refine wpAnyH_take (i := 1) (v := .pointer (some ⟨Zo, 0, none⟩)) rfl (by kernel_rfl) (by kernel_rfl) (by kernel_rfl) (fun _ _ _ h => h) (Or.inl ⟨by rfl, fun w hSw => by (try dsimp only at hSw); go_simp⟩) (by assumption) ?_
              try simp only [List.getElem_toArray, List.getElem_cons_zero, List.getElem_cons_succ, Act.put, List.setIfInBounds_toArray, List.set_cons_zero, List.set_cons_succ]
              refine wpAnyH_take (i := 2) (v := .int .u8 o.node) rfl (by kernel_rfl) (by kernel_rfl) (by kernel_rfl) (fun _ _ _ h => h) (Or.inl ⟨by rfl, fun w hSw => by (try dsimp only at hSw); go_simp⟩) (by assumption) ?_
              try simp only [List.getElem_toArray, List.getElem_cons_zero, List.getElem_cons_succ, Act.put, List.setIfInBounds_toArray, List.set_cons_zero, List.set_cons_succ]
              refine wpAnyH_take (i := 3) (v := .pointer (some ⟨Zo, 1, none⟩)) rfl (by kernel_rfl) (by kernel_rfl) (by kernel_rfl) (fun _ _ _ h => h) (Or.inl ⟨by rfl, fun w hSw => by (try dsimp only at hSw); go_simp⟩) (by assumption) ?_
              try simp only [List.getElem_toArray, List.getElem_cons_zero, List.getElem_cons_succ, Act.put, List.setIfInBounds_toArray, List.set_cons_zero, List.set_cons_succ]
              refine wpAnyH_take (i := 4) (v := .agg #[.bool o.x.has, .bool o.x.past, .string o.x.r.key, .int .u64 o.x.r.s.p, .int .u32 o.x.r.s.l, .int .u8 o.x.r.s.n, .int .u8 o.x.r.kind, .int .u32 o.x.r.flags, .int .u64 o.x.r.exp, .string o.x.r.body]) rfl (by kernel_rfl) (by kernel_rfl) (by kernel_rfl) (fun _ _ _ h => h) (Or.inl ⟨by rfl, fun w hSw => by (try dsimp only at hSw); go_simp⟩) (by assumption) ?_
              try simp only [List.getElem_toArray, List.getElem_cons_zero, List.getElem_cons_succ, Act.put, List.setIfInBounds_toArray, List.set_cons_zero, List.set_cons_succ]
              refine wpAnyH_take (i := 6) (v := .map (some S2)) rfl (by kernel_rfl) (by kernel_rfl) (by kernel_rfl) (fun _ _ _ h => h) (Or.inl ⟨by rfl, fun w hSw => by (try dsimp only at hSw); go_simp⟩) (by assumption) ?_
              try simp only [List.getElem_toArray, List.getElem_cons_zero, List.getElem_cons_succ, Act.put, List.setIfInBounds_toArray, List.set_cons_zero, List.set_cons_succ]
              refine wpAnyH_take (i := 7) (v := .pointer (some ⟨Zo, 0, none⟩)) rfl (by kernel_rfl) (by kernel_rfl) (by kernel_rfl) (fun _ _ _ h => h) (Or.inl ⟨by rfl, fun w hSw => by (try dsimp only at hSw); go_simp⟩) (by assumption) ?_
              try simp only [List.getElem_toArray, List.getElem_cons_zero, List.getElem_cons_succ, Act.put, List.setIfInBounds_toArray, List.set_cons_zero, List.set_cons_succ]
              refine wpAnyH_take (i := 8) (v := .int .u8 o.node) rfl (by kernel_rfl) (by kernel_rfl) (by kernel_rfl) (fun _ _ _ h => h) (Or.inl ⟨by rfl, fun w hSw => by (try dsimp only at hSw); go_simp⟩) (by assumption) ?_
              try simp only [List.getElem_toArray, List.getElem_cons_zero, List.getElem_cons_succ, Act.put, List.setIfInBounds_toArray, List.set_cons_zero, List.set_cons_succ]
              refine wpAnyH_take (i := 9) (v := .bool true) rfl (by kernel_rfl) (by kernel_rfl) (by kernel_rfl) (fun _ _ _ h => h) (Or.inl ⟨by rfl, fun w hSw => by (try dsimp only at hSw); go_simp⟩) (by assumption) ?_
              try simp only [List.getElem_toArray, List.getElem_cons_zero, List.getElem_cons_succ, Act.put, List.setIfInBounds_toArray, List.set_cons_zero, List.set_cons_succ]
              refine wpAnyH_ready (rs := [5]) (by kernel_rfl) (by simp) ?_
              refine AllReadyH.cons (i := 5) rfl (fun K hK => ?_) AllReadyH.nil
              go_simp
              refine (hTk).mono ?_
              rintro e w6 ⟨F6, rfl, t6, d6⟩
              have HD6 := hid (d2_x HT.out HDd.out t6 d6)
              have HR6 := hid (ap2_x HRd.out d6)
              have HZ6 := hid (at_sd HZd.out HOz.out.1 d6)
              have HOz6 : Hid (Off w6 G2 Zo) := hid (off_other HOz.out.2 d6)
              have hl2 := look_B HD6.out.m2 HNo.out
              have hl1 := look_B HD6.out.m1 HNo.out
              rw [setG_get, HAs.out] at hl2
              rw [setG_get, HFi.out] at hl1
              obtain ⟨y0, y1, y2, y3, y4, y5, y6, y7, y8, y9, y10⟩ := cells11 HZ6.out
              have hS := And.intro y0 (And.intro y1 (And.intro y2 (And.intro y3 (And.intro y4 (And.intro y5 (And.intro y6 (And.intro y7 (And.intro y8 (And.intro y9 (And.intro y10 (And.intro hl2 hl1)))))))))))
              clear t6 d6 hTk hl1 hl2 y0 y1 y2 y3 y4 y5 y6 y7 y8 y9 y10
              clear hHeld
              show K _ _
              refine hK.out _ _ (hS) (fun hHeld => ?_)
              clear hK K
              try simp only [List.getElem_toArray, List.getElem_cons_zero, List.getElem_cons_succ, Act.put, List.setIfInBounds_toArray, List.set_cons_zero, List.set_cons_succ]
              refine wpAnyH_take (i := 10) (v := .bool true) rfl (by kernel_rfl) (by kernel_rfl) (by kernel_rfl) (fun _ _ _ h => h) (Or.inl ⟨by rfl, fun w hSw => by (try dsimp only at hSw); go_simp⟩) (by assumption) ?_
              try simp only [List.getElem_toArray, List.getElem_cons_zero, List.getElem_cons_succ, Act.put, List.setIfInBounds_toArray, List.set_cons_zero, List.set_cons_succ]
              refine wpAnyH_take (i := 11) (v := .map (some S1)) rfl (by kernel_rfl) (by kernel_rfl) (by kernel_rfl) (fun _ _ _ h => h) (Or.inl ⟨by rfl, fun w hSw => by (try dsimp only at hSw); go_simp⟩) (by assumption) ?_
              try simp only [List.getElem_toArray, List.getElem_cons_zero, List.getElem_cons_succ, Act.put, List.setIfInBounds_toArray, List.set_cons_zero, List.set_cons_succ]
              refine wpAnyH_take (i := 12) (v := .pointer (some ⟨Zo, 0, none⟩)) rfl (by kernel_rfl) (by kernel_rfl) (by kernel_rfl) (fun _ _ _ h => h) (Or.inl ⟨by rfl, fun w hSw => by (try dsimp only at hSw); go_simp⟩) (by assumption) ?_
              try simp only [List.getElem_toArray, List.getElem_cons_zero, List.getElem_cons_succ, Act.put, List.setIfInBounds_toArray, List.set_cons_zero, List.set_cons_succ]
              refine wpAnyH_take (i := 13) (v := .int .u8 o.node) rfl (by kernel_rfl) (by kernel_rfl) (by kernel_rfl) (fun _ _ _ h => h) (Or.inl ⟨by rfl, fun w hSw => by (try dsimp only at hSw); go_simp⟩) (by assumption) ?_
              try simp only [List.getElem_toArray, List.getElem_cons_zero, List.getElem_cons_succ, Act.put, List.setIfInBounds_toArray, List.set_cons_zero, List.set_cons_succ]
              refine wpAnyH_take (i := 14) (v := .bool false) rfl (by kernel_rfl) (by kernel_rfl) (by kernel_rfl) (fun _ _ _ h => h) (Or.inl ⟨by rfl, fun w hSw => by (try dsimp only at hSw); go_simp⟩) (by assumption) ?_
              try simp only [List.getElem_toArray, List.getElem_cons_zero, List.getElem_cons_succ, Act.put, List.setIfInBounds_toArray, List.set_cons_zero, List.set_cons_succ]
              refine wpAnyH_take (i := 15) (v := .bool true) rfl (by kernel_rfl) (by kernel_rfl) (by kernel_rfl) (fun _ _ _ h => h) (Or.inl ⟨by rfl, fun w hSw => by (try dsimp only at hSw); go_simp⟩) (by assumption) ?_
              try simp only [List.getElem_toArray, List.getElem_cons_zero, List.getElem_cons_succ, Act.put, List.setIfInBounds_toArray, List.set_cons_zero, List.set_cons_succ]
              refine wpAnyH_take (i := 16) (v := .bool true) rfl (by kernel_rfl) (by kernel_rfl) (by kernel_rfl) (fun _ _ _ h => h) (Or.inl ⟨by rfl, fun w hSw => by (try dsimp only at hSw); go_simp⟩) (by assumption) ?_
              try simp only [List.getElem_toArray, List.getElem_cons_zero, List.getElem_cons_succ, Act.put, List.setIfInBounds_toArray, List.set_cons_zero, List.set_cons_succ]
              refine wpAnyH_take (i := 17) (v := .bool false) rfl (by kernel_rfl) (by kernel_rfl) (by kernel_rfl) (fun _ _ _ h => h) (Or.inl ⟨by rfl, fun w hSw => by (try dsimp only at hSw); go_simp⟩) (by assumption) ?_
              try simp only [List.getElem_toArray, List.getElem_cons_zero, List.getElem_cons_succ, Act.put, List.setIfInBounds_toArray, List.set_cons_zero, List.set_cons_succ]
              refine wpAnyH_done (by kernel_rfl) ?_ _
              refine NoPanic.normal ?_
              clear hHeld hS
              have hTy := ak_take HT.out HD6.out.y HQ.out HNo.out HXo.out
              obtain ⟨y0, y1, y2, y3, y4, y5, y6, y7, y8, y9, y10⟩ := cells11 HZ6.out
              go_wp2_with fail
              refine hTy.mono ?_
              rintro e w7 ⟨G7, rfl, t7, d7⟩
              have HD7 := hid (d2_y HT.out HD6.out t7 d7)
              have HR7 := hid (ap2_y HR6.out d7)
              have HZ7 := hid (at_sd HZ6.out HOz6.out d7)
              clear hTy t7 d7 y0 y1 y2 y3 y4 y5 y6 y7 y8 y9 y10
              obtain ⟨w8, hput, hd8, ht8⟩ := put_B HD7.out.m1 HNo.out
              rw [setG_put, ← HNn.out] at hd8
              have HD8 := hid (d2_put1 HT.out HD7.out hd8 ht8)
              have HR8 := hid (ap2_turned HR7.out ht8)
              obtain ⟨y0, y1, y2, y3, y4, y5, y6, y7, y8, y9, y10⟩ := cells11 HZ7.out
              clear hd8 ht8
              go_wp2_with fail
              go_roundw
              case rel => exact ⟨j + 1, _, F6, G7, by omega, by go_num, HFn, HD8, HR8⟩
              case measure => simp [intOf]; omega
        · have hjz : ¬ (j : Int) < (k1 : Int) := by omega
          obtain rfl : j = k1 := by omega
          have hfe := HFj.out
          have hde := HDj.out
          rw [HT1.out] at hfe hde
          have HFe := hid hfe
          have HDe := hid hde
          have hC := (HC.out HKs.out wr HDe.out.x.k).2
          clear hfe hde HFj HDj HRj hjz hjl
          go_wp2_with fail
          refine hC.mono ?_
          rintro e w9 ⟨r2, L2, rfl, o2, hL2, hcu2, k9⟩
          have HR9 := hid (ap2_new HT.out HDe.out.x HDe.out.y o2)
          have HD9 := hid (d2_kept HT.out HDe.out k9)
          have HCu2 := hid hcu2
          obtain ⟨sa, sc, rfl, hsc1, hsc2⟩ := og_is encO_ok o2
          unfold maxLen at hsc2
          have HG2 : Hid (∀ j : Nat, j < L2.length → ∃ y, L2[j]? = some y) := hid (fun j hj => ⟨L2[j], List.getElem?_eq_getElem hj⟩)
          have HP2 : Hid (0 < L2.length → ∃ g o, sa = some ⟨g, o, none⟩) := hid (fun hp => by
            obtain ⟨g, o, c, e⟩ := rg_pos HR9.out.1 hp
            injection e with e1
            exact ⟨g, o, e1⟩)
          generalize hk2 : L2.length = k2 at *
          clear o2 hcu2 k9 hC HDe hk2
          go_wp2_with fail
          go_loopw [99] (fun iv wx => ∃ (i2 : Nat) (F3 : Nat → Prop), i2 ≤ k2 ∧ iv = .int .i64 (i2 : Int) ∧ Hid (D2 T w X Y S1 S2 q q F3 G2 (setG (nodesL L1)) (setG l) wx) ∧ Hid (Rg encO 11 wx (.slice sa k2 sc) L2 ∧ Ap2 wx F3 G2 (.slice sa k2 sc) L2)) (fun iv _ => k2 - (intOf iv).toNat)
          case atStart => exact ⟨0, F2, Nat.zero_le _, rfl, HD9, HR9⟩
          case round =>
            obtain ⟨i2, F3, hi2, rfl, HDk, HRk⟩ := hrel
            clear HD9 HR9
            by_cases hkl : i2 < k2
            · have hkz : (i2 : Int) < (k2 : Int) := by omega
              obtain ⟨o, ho⟩ := HG2.out i2 hkl
              obtain ⟨g, oo, rfl⟩ := HP2.out (by omega)
              obtain ⟨c0, c1, c2, c3, c4, c5, c6, c7, c8, c9, c10⟩ := rg_O HRk.out.1 ho
              obtain ⟨hno, hxo, hko⟩ := HCu2.out o (List.mem_of_getElem? ho)
              have HNo := hid hno
              have HXo := hid hxo
              have HMy := hid (fi_may HFe.out hno)
              have HZ := hid (at_new wr #[.int .u8 o.node, .bool o.x.has, .bool o.x.past, .string o.x.r.key, .int .u64 o.x.r.s.p, .int .u32 o.x.r.s.l, .int .u8 o.x.r.s.n, .int .u8 o.x.r.kind, .int .u32 o.x.r.flags, .int .u64 o.x.r.exp, .string o.x.r.body] 36)
              have ka := kept_alloc (kept_refl wr) (.cells #[.int .u8 o.node, .bool o.x.has, .bool o.x.past, .string o.x.r.key, .int .u64 o.x.r.s.p, .int .u32 o.x.r.s.l, .int .u8 o.x.r.s.n, .int .u8 o.x.r.kind, .int .u32 o.x.r.flags, .int .u64 o.x.r.exp, .string o.x.r.body] 36)
              have HDa := hid (d2_kept HT.out HDk.out ka)
              have HRa := hid (ap2_kept HRk.out ka)
              have hl1 := look_B HDa.out.m1 HNo.out
              rw [setG_get] at hl1
              have hTk := ak_take HT.out HDa.out.x HQ.out HNo.out HXo.out
              obtain ⟨p0, p1, p2, p3, p4, p5, p6, p7, p8, p9, p10⟩ := cells11 HZ.out
              clear ho hno hxo hko ka HDk HRk
              cases hfi : inL (nodesL L1) o.node with
              | false =>
                rw [hfi] at hl1
                clear hTk hfi
                go_wp2_with fail
                go_roundw
                case rel => exact ⟨i2 + 1, F3, by omega, by go_num, HDa, HRa⟩
                case measure => simp [intOf]; omega
              | true =>
                rw [hfi] at hl1
                have hM : mayT q o.node = false := by rw [HMy.out, hfi]; simp
                rw [take_no hM, hM] at hTk
                clear hfi hM
                go_wp2_with fail
                refine hTk.mono ?_
                rintro e w11 ⟨F4, rfl, t11, d11⟩
                have HDb := hid (d2_x HT.out HDa.out t11 d11)
                have HRb := hid (ap2_x HRa.out d11)
                clear hTk t11 d11 hl1 c0 c1 c2 c3 c4 c5 c6 c7 c8 c9 c10 p0 p1 p2 p3 p4 p5 p6 p7 p8 p9 p10
                go_wp2_with fail
                go_roundw
                case rel => exact ⟨i2 + 1, F4, by omega, by go_num, HDb, HRb⟩
                case measure => simp [intOf]; omega
            · have hkz : ¬ (i2 : Int) < (k2 : Int) := by omega
              have hB1 := HT.out.best X q F3 wr HDk.out.x.t HQ.out
              obtain ⟨bq, hbq⟩ : ∃ b, bestQ q = b := ⟨_, rfl⟩
              obtain ⟨lv, hlv⟩ : ∃ b, liveQ q = b := ⟨_, rfl⟩
              obtain ⟨sm, hsm⟩ : ∃ b, someQ q = b := ⟨_, rfl⟩
              have HBq : Hid (bestQ q = bq ∧ liveQ q = lv ∧ someQ q = sm) := hid ⟨hbq, hlv, hsm⟩
              rw [hbq, hlv, hsm] at hB1
              have heq := eq_self bq
              have hll : (lv == lv) = true := by simp
              have hss : (sm == sm) = true := by simp
              clear hbq hlv hsm
              go_wp2_with fail
              refine hB1.mono ?_
              rintro e wa ⟨rfl, ka⟩
              have HA1 := hid (at_new wa #[.string bq.key, .int .u64 bq.s.p, .int .u32 bq.s.l, .int .u8 bq.s.n, .int .u8 bq.kind, .int .u32 bq.flags, .int .u64 bq.exp, .string bq.body] 32)
              have kb := kept_alloc (kept_refl wa) (.cells #[.string bq.key, .int .u64 bq.s.p, .int .u32 bq.s.l, .int .u8 bq.s.n, .int .u8 bq.kind, .int .u32 bq.flags, .int .u64 bq.exp, .string bq.body] 32)
              have HDa := hid (d2_kept HT.out HDk.out (kept_trans ka kb))
              have hB2 := HT.out.best Y q G2 _ HDa.out.y.t HQ.out
              rw [HBq.out.1, HBq.out.2.1, HBq.out.2.2] at hB2
              clear hB1 ka kb HDk HRk
              go_wp2_with fail
              generalize wa.alloc (.cells #[.string bq.key, .int .u64 bq.s.p, .int .u32 bq.s.l, .int .u8 bq.s.n, .int .u8 bq.kind, .int .u32 bq.flags, .int .u64 bq.exp, .string bq.body] 32) = wb at *
              generalize wa.heap.size = A1 at *
              refine hB2.mono ?_
              rintro e wc ⟨rfl, kc⟩
              have HA2 := hid (at_new wc #[.string bq.key, .int .u64 bq.s.p, .int .u32 bq.s.l, .int .u8 bq.s.n, .int .u8 bq.kind, .int .u32 bq.flags, .int .u64 bq.exp, .string bq.body] 32)
              have kd := kept_alloc (kept_refl wc) (.cells #[.string bq.key, .int .u64 bq.s.p, .int .u32 bq.s.l, .int .u8 bq.s.n, .int .u8 bq.kind, .int .u32 bq.flags, .int .u64 bq.exp, .string bq.body] 32)
              have HA1b := hid (at_kept HA1.out (kept_trans kc kd))
              have HDb := hid (d2_kept HT.out HDa.out (kept_trans kc kd))
              clear hB2 kc kd HDa HA1
              go_wp2_with fail
              generalize wc.alloc (.cells #[.string bq.key, .int .u64 bq.s.p, .int .u32 bq.s.l, .int .u8 bq.s.n, .int .u8 bq.kind, .int .u32 bq.flags, .int .u64 bq.exp, .string bq.body] 32) = wd at *
              generalize wc.heap.size = A2 at *
              refine (HT.out.best_nil wd).mono ?_
              rintro e we ⟨rn, bn, rfl, ke⟩
              have kf := kept_alloc (kept_refl we) (.cells #[.string rn.key, .int .u64 rn.s.p, .int .u32 rn.s.l, .int .u8 rn.s.n, .int .u8 rn.kind, .int .u32 rn.flags, .int .u64 rn.exp, .string rn.body] 32)
              have HA1c := hid (at_kept HA1b.out (kept_trans ke kf))
              have HA2c := hid (at_kept HA2.out (kept_trans ke kf))
              have HDc := hid (d2_kept HT.out HDb.out (kept_trans ke kf))
              clear ke kf HDb HA1b HA2
              go_wp2_with fail
              generalize we.alloc (.cells #[.string rn.key, .int .u64 rn.s.p, .int .u32 rn.s.l, .int .u8 rn.s.n, .int .u8 rn.kind, .int .u32 rn.flags, .int .u64 rn.exp, .string rn.body] 32) = wf at *
              generalize we.heap.size = A3 at *
              refine (HF.out wf).mono ?_
              rintro e wg ⟨rfl, kg⟩
              have HDd := hid (d2_kept HT.out HDc.out kg)
              obtain ⟨x0, x1, x2, x3, x4, x5, x6, x7⟩ := at_cells8' (at_kept HA1c.out kg)
              obtain ⟨y0, y1, y2, y3, y4, y5, y6, y7⟩ := at_cells8' (at_kept HA2c.out kg)
              have hY1 := HT.out.yes X q F3 wg HDd.out.x.t HQ.out
              obtain ⟨ys, hys⟩ : ∃ k, (hasL q).length = k := ⟨_, rfl⟩
              have HYs := hid hys
              rw [hys] at hY1
              clear kg HDc HA1c HA2c hys
              go_wp2_with fail
              refine hY1.mono ?_
              rintro e wh ⟨rfl, kh⟩
              have HDe := hid (d2_kept HT.out HDd.out kh)
              have hY2 := HT.out.yes Y q G2 wh HDe.out.y.t HQ.out
              rw [HYs.out] at hY2
              clear kh HDd hY1 x0 x1 x2 x3 x4 x5 x6 x7 y0 y1 y2 y3 y4 y5 y6 y7
              go_wp2_with fail
              refine hY2.mono ?_
              rintro e wi ⟨rfl, ki⟩
              have HK1 := hid (kept_trans HDe.out.x.k ki)
              have hN1 : Calls Try.prog 9 #[.pointer none, .int .u8 1, .agg #[.bool false, .bool false, .string ⟨#[]⟩, .int .u64 0, .int .u32 0, .int .u8 0, .int .u8 0, .int .u32 0, .int .u64 0, .string ⟨#[]⟩]] wi fun e w' => e = .returned (.bool false) ∧ Kept wi w' := HT.out.take_nil 1 zeroRp wi (by unfold okU; decide) zeroRp_ok
              clear ki HDe hY2
              go_wp2_with fail
              refine hN1.mono ?_
              rintro e wj ⟨rfl, kj⟩
              have HK2 := hid (kept_trans HK1.out kj)
              have hN2 := HT.out.over_nil 0 wj (by unfold inU64; decide)
              clear kj hN1
              go_wp2_with fail
              refine hN2.mono ?_
              rintro e wk ⟨rfl, kk⟩
              have HK3 := hid (kept_trans HK2.out kk)
              clear kk hN2
              go_wp2_with fail
              refine (HT.out.yes_nil wk).mono ?_
              rintro e wl ⟨rfl, kl⟩
              have HK4 := hid (kept_trans HK3.out kl)
              clear kl
              go_wp2_with fail
              refine (HT.out.behind_nil wl).mono ?_
              rintro e wm ⟨na, nc, rfl, km⟩
              have HK5 := hid (kept_trans HK4.out km)
              clear km
              go_wp2_with fail
              go_ret
              exact ⟨rfl, HK5.out⟩
end Go.Proofs.YtjmldnbepajnoaaR
