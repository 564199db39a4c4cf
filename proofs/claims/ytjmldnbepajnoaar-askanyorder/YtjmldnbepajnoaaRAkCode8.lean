/- The contract of the landed Behind. At most 100 nodes. -/
import Derived.Test.YtjmldnbepajnoaaRAkCode6
namespace Go.Proofs.YtjmldnbepajnoaaR
open Go.ChangeShapes Go.WideShapes Go.ChangeAt Go.RowKit
set_option linter.unusedVariables false
set_option linter.unusedSimpArgs false
set_option maxRecDepth 100000

theorem less_not {b : R} {y : Ad} (h : y.c = false) : (if lessM b y then [y.n] else []) = [] := by unfold lessM; rw [h]; rfl
theorem less_none {b : R} {y : Ad} (h : y.c = true) (h2 : y.x.has = false) : (if lessM b y then [y.n] else []) = [y.n] := by unfold lessM; rw [h, h2]; rfl
theorem less_less {b : R} {y : Ad} (h : y.c = true) (h2 : y.x.has = true) (h3 : ¬ 0 ≤ cmpR y.x.r b) : (if lessM b y then [y.n] else []) = [y.n] := by unfold lessM; rw [h, h2]; simp [h3]
theorem less_more {b : R} {y : Ad} (h : y.c = true) (h2 : y.x.has = true) (h3 : 0 ≤ cmpR y.x.r b) : (if lessM b y then [y.n] else []) = [] := by unfold lessM; rw [h, h2]; simp [h3]
theorem tyU5 : TyG Try.prog 22 5 1 1 := tyU
set_option maxHeartbeats 6400000 in
theorem behind_is (X : Nat) (a : Aq) (F : Nat → Prop) (w : World) (h : AO w X a F) (hl : a.l.length ≤ 100) : Calls Try.prog 13 #[.pointer (some ⟨X, 0, none⟩)] w fun e w' => ∃ r, e = .returned r ∧ Og encU 1 5 w' w.heap.size r (behQ a) ∧ Kept w w' := by
  have hB := besti_is X a F w h hl
  have HQ : Hid (behQ a = if someQ a then behM (bestQ a) (memL a) else []) := hid (by rw [behM_is]; rfl)
  have hml : (memL a).length ≤ 100 := by rw [mem_len]; exact hl
  obtain ⟨v, hX, hO, -⟩ := h
  have HR := hid (rg_own encA_ok hO)
  have HX := hid hX
  obtain ⟨va, vc, rfl, hc1, hc2⟩ := og_is encA_ok hO
  unfold maxLen at hc2
  generalize behQ a = q at *
  generalize bestQ a = b at *
  generalize someQ a = sm at *
  generalize memL a = M at *
  have HT : Hid (M.take M.length = M) := hid List.take_length
  have HG : Hid (∀ k : Nat, k < M.length → ∃ y, M[k]? = some y) := hid (fun k hk => ⟨M[k], List.getElem?_eq_getElem hk⟩)
  have HP : Hid (0 < M.length → ∃ g o, va = some ⟨g, o, none⟩) := hid (fun hp => by
    obtain ⟨g, o, c, e⟩ := rg_pos HR.out hp
    injection e with e1
    exact ⟨g, o, e1⟩)
  have HLn : Hid (∀ k, (behM b (M.take k)).length ≤ 100) := hid (fun k => Nat.le_trans (behM_len _ _) (by rw [List.length_take]; omega))
  have hza := zeroAv
  have hz := zeroRv
  generalize hm : M.length = m at *
  clear hX hO hm
  go_enter Try.func13, Try.ntmps13
  go_wp2_with fail
  refine hB.mono ?_
  rintro e w1 ⟨rfl, k1⟩
  clear hB
  have k2 := kept_alloc (kept_refl w1) (.cells #[.string b.key, .int .u64 b.s.p, .int .u32 b.s.l, .int .u8 b.s.n, .int .u8 b.kind, .int .u32 b.flags, .int .u64 b.exp, .string b.body] 32)
  have a2 := at_new w1 #[.string b.key, .int .u64 b.s.p, .int .u32 b.s.l, .int .u8 b.s.n, .int .u8 b.kind, .int .u32 b.flags, .int .u64 b.exp, .string b.body] 32
  obtain ⟨w2, hw2⟩ : ∃ u, w1.alloc (.cells #[.string b.key, .int .u64 b.s.p, .int .u32 b.s.l, .int .u8 b.s.n, .int .u8 b.kind, .int .u32 b.flags, .int .u64 b.exp, .string b.body] 32) = u := ⟨_, rfl⟩
  obtain ⟨P, hP⟩ : ∃ u, w1.heap.size = u := ⟨_, rfl⟩
  rw [hw2] at k2 a2
  rw [hP] at a2
  have HP2 := hid a2
  have HK2 := hid (kept_trans k1 k2)
  have HNE : Hid (w.heap.size ≤ P) := hid (by have := k1.2; omega)
  obtain ⟨c0, c1, -⟩ := at_cells2 (at_kept HX.out HK2.out)
  clear k1 k2 a2
  cases sm with
  | false =>
    have HE : Hid (q = []) := hid (by rw [HQ.out]; rfl)
    go_wp2_with fail
    go_ret
    exact ⟨_, rfl, by rw [HE.out]; exact og_nil _ _ _ _ _, HK2.out⟩
  | true =>
    have HE : Hid (q = behM b M) := hid (by rw [HQ.out]; rfl)
    clear HQ
    go_wp2_with fail
    clear c0 c1 hw2 hP
    go_loopw [5, 22] (fun rv iv wr => ∃ (k : Nat) (ba : Option Addr) (bc : Nat), k ≤ m ∧ rv = .slice ba (behM b (M.take k)).length bc ∧ iv = .int .i64 (k : Int) ∧ Hid (Og encU 1 5 wr w.heap.size (.slice ba (behM b (M.take k)).length bc) (behM b (M.take k))) ∧ Hid (At wr P #[.string b.key, .int .u64 b.s.p, .int .u32 b.s.l, .int .u8 b.s.n, .int .u8 b.kind, .int .u32 b.flags, .int .u64 b.exp, .string b.body] 32) ∧ Hid (Kept w wr)) (fun _ iv _ => m - (intOf iv).toNat)
    case atStart => exact ⟨0, none, 0, Nat.zero_le _, rfl, rfl, hid (og_nil _ _ _ _ _), HP2, HK2⟩
    case round =>
      obtain ⟨k, ba, bc, hk, rfl, rfl, HO, HPr, HK⟩ := hrel
      clear HP2 HK2
      by_cases hlt : k < m
      · have hltz : (k : Int) < (m : Int) := by omega
        obtain ⟨y, hy⟩ := HG.out k hlt
        obtain ⟨gg, oo, rfl⟩ := HP.out (by omega)
        obtain ⟨c0, c1, c2, c3, c4, c5, c6, c7, c8, c9, ca, cb⟩ := rg_A (rg_kept encA_ok HR.out HK.out) hy
        have HZ := hid (at_new wr #[.int .u8 y.n, .bool y.c, .bool y.x.has, .bool y.x.past, .string y.x.r.key, .int .u64 y.x.r.s.p, .int .u32 y.x.r.s.l, .int .u8 y.x.r.s.n, .int .u8 y.x.r.kind, .int .u32 y.x.r.flags, .int .u64 y.x.r.exp, .string y.x.r.body] 54)
        have ka := kept_alloc (kept_refl wr) (.cells #[.int .u8 y.n, .bool y.c, .bool y.x.has, .bool y.x.past, .string y.x.r.key, .int .u64 y.x.r.s.p, .int .u32 y.x.r.s.l, .int .u8 y.x.r.s.n, .int .u8 y.x.r.kind, .int .u32 y.x.r.flags, .int .u64 y.x.r.exp, .string y.x.r.body] 54)
        have HKa := hid (kept_trans HK.out ka)
        have HPa := hid (at_kept HPr.out ka)
        have HOa := hid (og_stays HO.out ka)
        have HNx := hid (behM_next (b := b) hy)
        have HLk := hid (HLn.out k)
        obtain ⟨qn, qc, hs0, ps, r⟩ := y
        obtain ⟨p0, p1, p2, p3, p4, p5, p6, p7, p8, p9, pa, pb⟩ := cells12 HZ.out
        generalize hbm : behM b (M.take k) = bm at *
        generalize hbl : bm.length = bl at *
        have HBl := hid hbl
        clear hy HPr ka hbm hbl HO
        cases qc with
        | false =>
          have HN1 : Hid (behM b (M.take (k + 1)) = bm) := hid (by rw [HNx.out, less_not rfl, List.append_nil])
          clear HNx HZ
          go_wp2_with fail
          go_roundw
          case rel => exact ⟨k + 1, ba, bc, by omega, by rw [HN1.out, HBl.out], by go_num, by rw [HN1.out, HBl.out]; exact HOa, HPa, HKa⟩
          case measure => simp [intOf]; omega
        | true =>
          cases hs0 with
          | false =>
            have HN1 : Hid (behM b (M.take (k + 1)) = bm ++ [qn]) := hid (by rw [HNx.out, less_none rfl rfl])
            have kb := kept_alloc (kept_refl (wr.alloc (.cells #[.int .u8 qn, .bool true, .bool false, .bool ps, .string r.key, .int .u64 r.s.p, .int .u32 r.s.l, .int .u8 r.s.n, .int .u8 r.kind, .int .u32 r.flags, .int .u64 r.exp, .string r.body] 54))) (.cells #[.int .u8 qn] 5)
            have hal := rg_alone encU_ok (y := qn) (at_new (wr.alloc (.cells #[.int .u8 qn, .bool true, .bool false, .bool ps, .string r.key, .int .u64 r.s.p, .int .u32 r.s.l, .int .u8 r.s.n, .int .u8 r.kind, .int .u32 r.flags, .int .u64 r.exp, .string r.body] 54)) #[.int .u8 qn] 5)
            try simp only [World.size_alloc] at hal
            have HAl := hid hal
            clear hal
            have HPb := hid (at_kept HPa.out kb)
            have HOb := hid (og_stays HOa.out kb)
            have HKb := hid (kept_trans HKa.out kb)
            clear HNx HZ HPa HOa HKa kb
            go_wp2_with (at_builtin; go_must (refine wpList_gapp rfl (.tmp 42) (.tmp 45) rfl encU_ok tyU (by decide) w.heap.size _ _ _ [qn] rfl HOb.out rfl HAl.out (by rw [HBl.out]; have := HLk.out; simp; omega) HKb.out.2 ?_; intro v4 w4 hown4 hgrow4 hnil4; obtain ⟨va4, vc4, e4, -, -⟩ := og_is encU_ok hown4; obtain ⟨ln, hln⟩ : ∃ ln, (bm ++ [qn]).length = ln := ⟨_, rfl⟩; rw [hln] at e4; have HLN := hid hln; clear hln; subst e4; have HP4 := hid (at_beside HPb.out HOb.out (by decide) hgrow4); have HK4 := hid (kept_gr HKb.out hgrow4 (fun q hq => og_lt HOb.out hq)); have HO4 := hid hown4; clear hown4 hgrow4 hnil4))
            go_roundw
            case rel => exact ⟨k + 1, va4, vc4, by omega, by rw [HN1.out, HLN.out], by go_num, by rw [HN1.out, HLN.out]; exact HO4, HP4, HK4⟩
            case measure => simp [intOf]; omega
          | true =>
            obtain ⟨d0, d1, d2, d3, d4, d5, d6, d7, df⟩ := at_cells8 HPa.out
            go_wp2_with fail
            refine (Compare_any r b _).mono ?_
            rintro e w3 ⟨rfl, k3⟩
            replace HKa := hid (kept_trans HKa.out k3)
            replace HPa := hid (at_kept HPa.out k3)
            replace HOa := hid (og_stays HOa.out k3)
            obtain ⟨q0, q1, q2, q3, q4, q5, q6, q7, q8, q9, qa, qb⟩ := cells12 (at_kept HZ.out k3)
            clear k3 c0 c1 c2 c3 c4 c5 c6 c7 c8 c9 ca cb p0 p1 p2 p3 p4 p5 p6 p7 p8 p9 pa pb d0 d1 d2 d3 d4 d5 d6 d7 df
            generalize wr.heap.size = Zm at *
            by_cases hcm : 0 ≤ cmpR r b
            · have HN1 : Hid (behM b (M.take (k + 1)) = bm) := hid (by rw [HNx.out, less_more rfl rfl hcm, List.append_nil])
              have hd : decide (0 ≤ cmpR r b) = true := by simpa using hcm
              clear HNx HZ
              go_wp2_with fail
              go_roundw
              case rel => exact ⟨k + 1, ba, bc, by omega, by rw [HN1.out, HBl.out], by go_num, by rw [HN1.out, HBl.out]; exact HOa, HPa, HKa⟩
              case measure => simp [intOf]; omega
            · have HN1 : Hid (behM b (M.take (k + 1)) = bm ++ [qn]) := hid (by rw [HNx.out, less_less rfl rfl hcm])
              have hd : decide (0 ≤ cmpR r b) = false := by simpa using hcm
              have kb := kept_alloc (kept_refl w3) (.cells #[.int .u8 qn] 5)
              have hal := rg_alone encU_ok (y := qn) (at_new w3 #[.int .u8 qn] 5)
              try simp only [World.size_alloc] at hal
              have HAl := hid hal
              clear hal
              have HPb := hid (at_kept HPa.out kb)
              have HOb := hid (og_stays HOa.out kb)
              have HKb := hid (kept_trans HKa.out kb)
              clear HNx HZ HPa HOa HKa kb
              go_wp2_with (at_builtin; go_must (refine wpList_gapp rfl (.tmp 42) (.tmp 45) rfl encU_ok tyU (by decide) w.heap.size _ _ _ [qn] rfl HOb.out rfl HAl.out (by rw [HBl.out]; have := HLk.out; simp; omega) HKb.out.2 ?_; intro v4 w4 hown4 hgrow4 hnil4; obtain ⟨va4, vc4, e4, -, -⟩ := og_is encU_ok hown4; obtain ⟨ln, hln⟩ : ∃ ln, (bm ++ [qn]).length = ln := ⟨_, rfl⟩; rw [hln] at e4; have HLN := hid hln; clear hln; subst e4; have HP4 := hid (at_beside HPb.out HOb.out (by decide) hgrow4); have HK4 := hid (kept_gr HKb.out hgrow4 (fun q hq => og_lt HOb.out hq)); have HO4 := hid hown4; clear hown4 hgrow4 hnil4))
              go_roundw
              case rel => exact ⟨k + 1, va4, vc4, by omega, by rw [HN1.out, HLN.out], by go_num, by rw [HN1.out, HLN.out]; exact HO4, HP4, HK4⟩
              case measure => simp [intOf]; omega
      · have hltz : ¬ (k : Int) < (m : Int) := by omega
        obtain rfl : k = m := by omega
        rw [HT.out, ← HE.out] at HO
        rw [HT.out, ← HE.out]
        go_wp2_with fail
        go_ret
        exact ⟨_, rfl, HO.out, HK.out⟩
end Go.Proofs.YtjmldnbepajnoaaR
