/- The contract of the landed best. At most 100 nodes. -/
import Derived.Test.YtjmldnbepajnoaaRAkMem
import Derived.Test.YtjmldnbepajnoaaRAkCode3
namespace Go.Proofs.YtjmldnbepajnoaaR
open Go.ChangeShapes Go.WideShapes Go.ChangeAt Go.RowKit
set_option linter.unusedVariables false
set_option linter.unusedSimpArgs false
set_option maxRecDepth 100000

theorem resBT {fn : Func} {p q : Tmp} (h : fn.results = #[.cell p 32, .tmp q]) (tmps : Array Value) {w : World} {X T : Nat} {v0 v1 v2 v3 v4 v5 v6 v7 : Value} (hp : tmps.getD p undef = .pointer (some ⟨X, 0, none⟩)) (hA : At w X #[v0, v1, v2, v3, v4, v5, v6, v7] T) :
    (results fn tmps).run Try.prog w = .ok (.tuple #[.agg #[v0, v1, v2, v3, v4, v5, v6, v7], tmps.getD q undef]) w := by
  obtain ⟨c0, c1, c2, c3, c4, c5, c6, c7, -⟩ := at_cells8 hA
  have hp' : tmps[p]?.getD undef = .pointer (some ⟨X, 0, none⟩) := by simpa using hp
  simp [results, h, go_sem, hp', c0, c1, c2, c3, c4, c5, c6, c7]
theorem step_no {b : R} {sm : Bool} {y : Ad} (h : y.x.has = false) : stepB (b, sm) y = (b, sm) := by unfold stepB; rw [h]; rfl
theorem step_first {b : R} {y : Ad} (h : y.x.has = true) : stepB (b, false) y = (y.x.r, true) := by unfold stepB; rw [h]; rfl
theorem step_more {b : R} {y : Ad} (h : y.x.has = true) (hc : cmpR b y.x.r < 0) : stepB (b, true) y = (y.x.r, true) := by unfold stepB; rw [h]; simp [hc]
theorem step_less {b : R} {y : Ad} (h : y.x.has = true) (hc : ¬ cmpR b y.x.r < 0) : stepB (b, true) y = (b, true) := by unfold stepB; rw [h]; simp [hc]
set_option maxHeartbeats 6400000 in
theorem besti_is (X : Nat) (a : Aq) (F : Nat → Prop) (w : World) (h : AO w X a F) (hl : a.l.length ≤ 100) : Calls Try.prog 18 #[.pointer (some ⟨X, 0, none⟩)] w fun e w' => e = .returned (.tuple #[.agg #[.string (bestQ a).key, .int .u64 (bestQ a).s.p, .int .u32 (bestQ a).s.l, .int .u8 (bestQ a).s.n, .int .u8 (bestQ a).kind, .int .u32 (bestQ a).flags, .int .u64 (bestQ a).exp, .string (bestQ a).body], .bool (someQ a)]) ∧ Kept w w' := by
  obtain ⟨v, hX, hO, -⟩ := h
  have HR := hid (rg_own encA_ok hO)
  have HE : Hid (foldB (memL a) = (bestQ a, someQ a)) := hid (foldB_is a)
  have hml : (memL a).length ≤ 100 := by rw [mem_len]; exact hl
  obtain ⟨va, vc, rfl, hc1, hc2⟩ := og_is encA_ok hO
  unfold maxLen at hc2
  generalize bestQ a = bq at *
  generalize someQ a = sq at *
  generalize memL a = M at *
  have HT : Hid (M.take M.length = M) := hid List.take_length
  have HG : Hid (∀ k : Nat, k < M.length → ∃ y, M[k]? = some y) := hid (fun k hk => ⟨M[k], List.getElem?_eq_getElem hk⟩)
  have HP : Hid (0 < M.length → ∃ g o, va = some ⟨g, o, none⟩) := hid (fun hp => by
    obtain ⟨g, o, c, e⟩ := rg_pos HR.out hp
    injection e with e1
    exact ⟨g, o, e1⟩)
  have hza := zeroAv
  have hz := zeroRv
  have k1 := kept_alloc (kept_refl w) (.cells #[.string ⟨#[]⟩, .int .u64 0, .int .u32 0, .int .u8 0, .int .u8 0, .int .u32 0, .int .u64 0, .string ⟨#[]⟩] 32)
  have a1 := at_new w #[.string ⟨#[]⟩, .int .u64 0, .int .u32 0, .int .u8 0, .int .u8 0, .int .u32 0, .int .u64 0, .string ⟨#[]⟩] 32
  have s1 : (w.alloc (.cells #[.string ⟨#[]⟩, .int .u64 0, .int .u32 0, .int .u8 0, .int .u8 0, .int .u32 0, .int .u64 0, .string ⟨#[]⟩] 32)).heap.size = w.heap.size + 1 := World.size_alloc _ _
  obtain ⟨w1, hw1⟩ : ∃ u, w.alloc (.cells #[.string ⟨#[]⟩, .int .u64 0, .int .u32 0, .int .u8 0, .int .u8 0, .int .u32 0, .int .u64 0, .string ⟨#[]⟩] 32) = u := ⟨_, rfl⟩
  rw [hw1] at k1 a1 s1
  have k2 := kept_alloc (kept_refl w1) (.cells #[.string ⟨#[]⟩, .int .u64 0, .int .u32 0, .int .u8 0, .int .u8 0, .int .u32 0, .int .u64 0, .string ⟨#[]⟩] 32)
  have a2 := at_new w1 #[.string ⟨#[]⟩, .int .u64 0, .int .u32 0, .int .u8 0, .int .u8 0, .int .u32 0, .int .u64 0, .string ⟨#[]⟩] 32
  obtain ⟨w2, hw2⟩ : ∃ u, w1.alloc (.cells #[.string ⟨#[]⟩, .int .u64 0, .int .u32 0, .int .u8 0, .int .u8 0, .int .u32 0, .int .u64 0, .string ⟨#[]⟩] 32) = u := ⟨_, rfl⟩
  obtain ⟨Q, hQ⟩ : ∃ u, w.heap.size = u := ⟨_, rfl⟩
  obtain ⟨P, hP⟩ : ∃ u, w1.heap.size = u := ⟨_, rfl⟩
  rw [hw2] at k2 a2
  rw [hQ] at a1
  rw [hP] at a2
  have HQ0 := hid (at_kept a1 k2)
  have HP0 : Hid (At w2 P #[.string zeroR.key, .int .u64 zeroR.s.p, .int .u32 zeroR.s.l, .int .u8 zeroR.s.n, .int .u8 zeroR.kind, .int .u32 zeroR.flags, .int .u64 zeroR.exp, .string zeroR.body] 32) := hid a2
  have HK0 := hid (kept_trans k1 k2)
  have HNE : Hid (Q ≠ P ∧ w.heap.size ≤ Q ∧ w.heap.size ≤ P) := hid ⟨by omega, by omega, by omega⟩
  obtain ⟨c0, c1, -⟩ := at_cells2 (at_kept hX HK0.out)
  generalize hm : M.length = m at *
  clear hX hO hm k1 a1 s1 k2 a2
  go_enter Try.func18, Try.ntmps18
  go_wp2_with fail
  clear c0 c1 hw1 hw2 hQ hP
  go_loopw [5, 13] (fun sv iv wr => ∃ (k : Nat), k ≤ m ∧ sv = .bool (foldB (M.take k)).2 ∧ iv = .int .i64 (k : Int) ∧ Hid (At wr P #[.string (foldB (M.take k)).1.key, .int .u64 (foldB (M.take k)).1.s.p, .int .u32 (foldB (M.take k)).1.s.l, .int .u8 (foldB (M.take k)).1.s.n, .int .u8 (foldB (M.take k)).1.kind, .int .u32 (foldB (M.take k)).1.flags, .int .u64 (foldB (M.take k)).1.exp, .string (foldB (M.take k)).1.body] 32) ∧ Hid (At wr Q #[.string ⟨#[]⟩, .int .u64 0, .int .u32 0, .int .u8 0, .int .u8 0, .int .u32 0, .int .u64 0, .string ⟨#[]⟩] 32) ∧ Hid (Kept w wr)) (fun _ iv _ => m - (intOf iv).toNat)
  case atStart => exact ⟨0, Nat.zero_le _, rfl, rfl, HP0, HQ0, HK0⟩
  case round =>
    obtain ⟨k, hk, rfl, rfl, HPr, HQr, HK⟩ := hrel
    clear HP0 HQ0 HK0
    by_cases hlt : k < m
    · have hltz : (k : Int) < (m : Int) := by omega
      obtain ⟨y, hy⟩ := HG.out k hlt
      obtain ⟨gg, oo, rfl⟩ := HP.out (by omega)
      obtain ⟨c0, c1, c2, c3, c4, c5, c6, c7, c8, c9, ca, cb⟩ := rg_A (rg_kept encA_ok HR.out HK.out) hy
      have HZ := hid (at_new wr #[.int .u8 y.n, .bool y.c, .bool y.x.has, .bool y.x.past, .string y.x.r.key, .int .u64 y.x.r.s.p, .int .u32 y.x.r.s.l, .int .u8 y.x.r.s.n, .int .u8 y.x.r.kind, .int .u32 y.x.r.flags, .int .u64 y.x.r.exp, .string y.x.r.body] 54)
      have ka := kept_alloc (kept_refl wr) (.cells #[.int .u8 y.n, .bool y.c, .bool y.x.has, .bool y.x.past, .string y.x.r.key, .int .u64 y.x.r.s.p, .int .u32 y.x.r.s.l, .int .u8 y.x.r.s.n, .int .u8 y.x.r.kind, .int .u32 y.x.r.flags, .int .u64 y.x.r.exp, .string y.x.r.body] 54)
      have HKa := hid (kept_trans HK.out ka)
      have HPa := hid (at_kept HPr.out ka)
      have HQa := hid (at_kept HQr.out ka)
      have HNx := hid (foldB_next hy)
      obtain ⟨b, sm, hs⟩ : ∃ b sm, foldB (M.take k) = (b, sm) := ⟨_, _, rfl⟩
      rw [hs] at HNx HPa ⊢
      obtain ⟨qn, qc, hs0, ps, r⟩ := y
      obtain ⟨p0, p1, p2, p3, p4, p5, p6, p7, p8, p9, pa, pb⟩ := cells12 HZ.out
      clear hy hs HPr HQr ka
      cases hs0 with
      | false =>
        have HN1 : Hid (foldB (M.take (k + 1)) = (b, sm)) := hid (by rw [HNx.out]; exact step_no rfl)
        clear HNx HZ
        go_wp2_with fail
        go_roundw
        case rel => exact ⟨k + 1, by omega, by rw [HN1.out], by go_num, by rw [HN1.out]; exact HPa, HQa, HKa⟩
        case measure => simp [intOf]; omega
      | true =>
        cases sm with
        | false =>
          have HN1 : Hid (foldB (M.take (k + 1)) = (r, true)) := hid (by rw [HNx.out]; exact step_first rfl)
          obtain ⟨d0, d1, d2, d3, d4, d5, d6, d7, df⟩ := at_cells8 HPa.out
          have HP3 := hid (at_set8 HPa.out (.string r.key) (.int .u64 r.s.p) (.int .u32 r.s.l) (.int .u8 r.s.n) (.int .u8 r.kind) (.int .u32 r.flags) (.int .u64 r.exp) (.string r.body))
          have HK3 := hid (kept_set8 HKa.out HNE.out.2.2 (.string r.key) (.int .u64 r.s.p) (.int .u32 r.s.l) (.int .u8 r.s.n) (.int .u8 r.kind) (.int .u32 r.flags) (.int .u64 r.exp) (.string r.body))
          have HQ3 := hid (at_out8 HQa.out HNE.out.1 (.string r.key) (.int .u64 r.s.p) (.int .u32 r.s.l) (.int .u8 r.s.n) (.int .u8 r.kind) (.int .u32 r.flags) (.int .u64 r.exp) (.string r.body))
          clear HNx HZ HPa HQa HKa
          go_wp2_with fail
          go_roundw
          case rel => exact ⟨k + 1, by omega, by rw [HN1.out], by go_num, by rw [HN1.out]; exact HP3, HQ3, HK3⟩
          case measure => simp [intOf]; omega
        | true =>
          obtain ⟨d0, d1, d2, d3, d4, d5, d6, d7, df⟩ := at_cells8 HPa.out
          go_wp2_with fail
          refine (Compare_any b r _).mono ?_
          rintro e w3 ⟨rfl, k3⟩
          have HKb := hid (kept_trans HKa.out k3)
          have HPb := hid (at_kept HPa.out k3)
          have HQb := hid (at_kept HQa.out k3)
          obtain ⟨q0, q1, q2, q3, q4, q5, q6, q7, q8, q9, qa, qb⟩ := cells12 (at_kept HZ.out k3)
          obtain ⟨e0, e1, e2, e3, e4, e5, e6, e7, ef⟩ := at_cells8 HPb.out
          clear k3 HPa HQa HKa HZ c0 c1 c2 c3 c4 c5 c6 c7 c8 c9 ca cb p0 p1 p2 p3 p4 p5 p6 p7 p8 p9 pa pb d0 d1 d2 d3 d4 d5 d6 d7 df
          generalize wr.heap.size = Zm at *
          by_cases hcm : cmpR b r < 0
          · have HN1 : Hid (foldB (M.take (k + 1)) = (r, true)) := hid (by rw [HNx.out]; exact step_more rfl hcm)
            have hd : decide (cmpR b r < 0) = true := by simpa using hcm
            have HP3 := hid (at_set8 HPb.out (.string r.key) (.int .u64 r.s.p) (.int .u32 r.s.l) (.int .u8 r.s.n) (.int .u8 r.kind) (.int .u32 r.flags) (.int .u64 r.exp) (.string r.body))
            have HK3 := hid (kept_set8 HKb.out HNE.out.2.2 (.string r.key) (.int .u64 r.s.p) (.int .u32 r.s.l) (.int .u8 r.s.n) (.int .u8 r.kind) (.int .u32 r.flags) (.int .u64 r.exp) (.string r.body))
            have HQ3 := hid (at_out8 HQb.out HNE.out.1 (.string r.key) (.int .u64 r.s.p) (.int .u32 r.s.l) (.int .u8 r.s.n) (.int .u8 r.kind) (.int .u32 r.flags) (.int .u64 r.exp) (.string r.body))
            clear HNx HPb HQb HKb
            go_wp2_with fail
            go_roundw
            case rel => exact ⟨k + 1, by omega, by rw [HN1.out], by go_num, by rw [HN1.out]; exact HP3, HQ3, HK3⟩
            case measure => simp [intOf]; omega
          · have HN1 : Hid (foldB (M.take (k + 1)) = (b, true)) := hid (by rw [HNx.out]; exact step_less rfl hcm)
            have hd : decide (cmpR b r < 0) = false := by simpa using hcm
            clear HNx e0 e1 e2 e3 e4 e5 e6 e7 ef
            go_wp2_with fail
            go_roundw
            case rel => exact ⟨k + 1, by omega, by rw [HN1.out], by go_num, by rw [HN1.out]; exact HPb, HQb, HKb⟩
            case measure => simp [intOf]; omega
    · have hltz : ¬ (k : Int) < (m : Int) := by omega
      obtain rfl : k = m := by omega
      rw [HT.out, HE.out] at HPr
      rw [HT.out, HE.out]
      obtain ⟨d0, d1, d2, d3, d4, d5, d6, d7, -⟩ := at_cells8 HPr.out
      obtain ⟨e0, e1, e2, e3, e4, e5, e6, e7, ef⟩ := at_cells8 HQr.out
      have HQ3 := hid (at_set8 HQr.out (.string bq.key) (.int .u64 bq.s.p) (.int .u32 bq.s.l) (.int .u8 bq.s.n) (.int .u8 bq.kind) (.int .u32 bq.flags) (.int .u64 bq.exp) (.string bq.body))
      have HK3 := hid (kept_set8 HK.out HNE.out.2.1 (.string bq.key) (.int .u64 bq.s.p) (.int .u32 bq.s.l) (.int .u8 bq.s.n) (.int .u8 bq.kind) (.int .u32 bq.flags) (.int .u64 bq.exp) (.string bq.body))
      clear HPr HQr
      go_wp2_with fail
      exact bodyPost_ret (resBT Try.results18 _ rfl HQ3.out) rfl ⟨rfl, HK3.out⟩
end Go.Proofs.YtjmldnbepajnoaaR
