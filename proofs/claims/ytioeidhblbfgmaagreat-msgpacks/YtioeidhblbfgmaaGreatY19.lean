/- The contract of the landed may. The landed writer's builder: a struct of two cells that lies in the writer's own block; the contracts of its copyCheck, WriteString and String. What is built has at most 2^47 bytes. -/
import Derived.Test.YtioeidhblbfgmaaGreatY17
import Derived.Test.YtioeidhblbfgmaaGreatY18
import Derived.Test.YtioeidhblbfgmaaGreatY14
import Derived.Shelf.Strings.Builder1
import Derived.Lib.AppendStr
import Derived.Lib.FrozenHead

namespace Go.Proofs.YtioeidhblbfgmaaGreat
open Go.ChangeShapes Go.WideShapes Go.ChangeAt Go.RowKit
set_option linter.unusedVariables false
set_option linter.unusedSimpArgs false
set_option maxRecDepth 100000

theorem mayM_as (m : Ms) : mayM m = ((((((((((decide (1 ≤ m.kind) && decide (m.kind ≤ 14)) && decide (m.frm < 64)) && decide (m.dst < 64)) && decide (m.tgt < 64)) && decide (m.rng < 64)) && (decide (m.news.length ≤ 4096) && m.news.all mayN)) && (decide (m.keys.length ≤ 4096) && m.keys.all keyMay)) && (decide (m.recs.length ≤ 4096) && m.recs.all mayR)) && (decide (m.seen.length ≤ 4096) && m.seen.all mayS)) && decide (m.digs.length ≤ 4096)) := by
  unfold mayM mayHead mayLen
  generalize m.news.all mayN = b1
  generalize m.keys.all keyMay = b2
  generalize m.recs.all mayR = b3
  generalize m.seen.all mayS = b4
  rw [Bool.eq_iff_iff]
  simp only [Bool.and_eq_true, decide_eq_true_eq]
  constructor
  · rintro ⟨⟨h1, h2, h3, h4, h5, h6⟩, ⟨l1, l2, l3, l4, l5⟩, a1, a2, a3, a4⟩
    exact ⟨⟨⟨⟨⟨⟨⟨⟨⟨⟨h1, h2⟩, by omega⟩, by omega⟩, by omega⟩, by omega⟩, l1, a1⟩, l2, a2⟩, l3, a3⟩, l4, a4⟩, l5⟩
  · rintro ⟨⟨⟨⟨⟨⟨⟨⟨⟨⟨h1, h2⟩, h3⟩, h4⟩, h5⟩, h6⟩, l1, a1⟩, l2, a2⟩, l3, a3⟩, l4, a4⟩, l5⟩
    exact ⟨⟨h1, h2, by omega, by omega, by omega, by omega⟩, ⟨l1, l2, l3, l4, l5⟩, a1, a2, a3, a4⟩
set_option maxHeartbeats 12800000 in
theorem ldMay_any (m : Ms) (ok : MsOk m) (vn vk vr vs vd : Value) (w : World) (h : MsR w vn vk vr vs vd m) :
    Calls Tryz.prog 19 #[msgV m vn vk vr vs vd] w fun e w' => e = .returned (.bool (mayM m)) ∧ Kept w w' := by
  obtain ⟨g1, d1, rfl, e1, f1⟩ := rg_is h.n
  obtain ⟨g2, d2, rfl, e2, f2⟩ := rg_is h.k
  obtain ⟨g3, d3, rfl, e3, f3⟩ := rg_is h.r
  obtain ⟨g4, d4, rfl, e4, f4⟩ := rg_is h.s
  obtain ⟨g5, d5, rfl, e5, f5⟩ := rg_is h.d
  have HR := hid h
  have HE := hid (mayM_as m)
  have HN := hid (fun (u : World) (k : Kept w u) => ldAllN m.news (fun _ _ => trivial) _ u (rg_kept encN_ok HR.out.n k))
  have HK := hid (fun (u : World) (k : Kept w u) => ldAllK m.keys (fun x hx => ok.keys x hx) _ u (rg_kept encK_ok HR.out.k k))
  have HRc := hid (fun (u : World) (k : Kept w u) => ldAllR m.recs (fun x hx => ⟨(ok.recs x hx).1, (ok.recs x hx).2.2.2.2.2⟩) _ u (rg_kept encR_ok HR.out.r k))
  have HS := hid (fun (u : World) (k : Kept w u) => ldAllS m.seen (fun x hx => (ok.seen x hx).1) _ u (rg_kept encS_ok HR.out.s k))
  generalize (decide (m.news.length ≤ 4096) && m.news.all mayN) = bN at *
  generalize (decide (m.keys.length ≤ 4096) && m.keys.all keyMay) = bK at *
  generalize (decide (m.recs.length ≤ 4096) && m.recs.all mayR) = bR at *
  generalize (decide (m.seen.length ≤ 4096) && m.seen.all mayS) = bS at *
  generalize mayM m = out at *
  clear e1 f1 e2 f2 e3 f3 e4 f4 e5 f5 ok h HR
  generalize m.news.length = n1 at *
  generalize m.keys.length = n2 at *
  generalize m.recs.length = n3 at *
  generalize m.seen.length = n4 at *
  generalize m.digs.length = n5 at *
  have k1 := kept_alloc (kept_refl w) (.cells #[.int .u8 m.kind, .int .u8 m.frm, .int .u8 m.dst, .int .u32 m.id, .int .u8 m.tgt, .int .u8 m.rng, .bool m.flag, .slice g1 n1 d1, .slice g2 n2 d2, .slice g3 n3 d3, .slice g4 n4 d4, .slice g5 n5 d5] 29)
  have A1 := at_new w #[.int .u8 m.kind, .int .u8 m.frm, .int .u8 m.dst, .int .u32 m.id, .int .u8 m.tgt, .int .u8 m.rng, .bool m.flag, .slice g1 n1 d1, .slice g2 n2 d2, .slice g3 n3 d3, .slice g4 n4 d4, .slice g5 n5 d5] 29
  have HK1 := hid k1
  have HA1 := hid A1
  obtain ⟨⟨x0, x1, x2, x3, x4, x5, x6, x7, x8, x9, xa, xb⟩, -⟩ := cells12 A1
  clear k1 A1
  unfold msgV
  by_cases h1 : 1 ≤ m.kind
  · have h0 := h1
    clear h0
    by_cases h2 : m.kind ≤ 14
    · have h0 := h2
      clear h0
      by_cases h3 : m.frm < 64
      · have h0 := h3
        clear h0
        by_cases h4 : m.dst < 64
        · have h0 := h4
          clear h0
          by_cases h5 : m.tgt < 64
          · have h0 := h5
            clear h0
            by_cases h6 : m.rng < 64
            · have h0 := h6
              clear h0
              cases h7 : bN with
              | false =>
                rw [h7] at HN
                have HO : Hid (out = false) := hid (by rw [HE.out]; simp [h1, h2, h3, h4, h5, h6, h7])
                clear HE
                go_enter Tryz.func19, Tryz.ntmps19
                go_wp2_with fail
                refine (HN.out _ HK1.out).mono ?_
                rintro e w2 ⟨rfl, k2⟩
                have HK2 := hid (kept_trans HK1.out k2)
                have HA2 := hid (at_kept HA1.out k2)
                clear k2 x0 x1 x2 x3 x4 x5 x6 x7 x8 x9 xa xb
                obtain ⟨⟨x0, x1, x2, x3, x4, x5, x6, x7, x8, x9, xa, xb⟩, -⟩ := cells12 HA2.out
                go_wp2_with fail
                go_ret
                exact ⟨ret_bool HO.out.symm, HK2.out⟩
              | true =>
                rw [h7] at HN
                cases h8 : bK with
                | false =>
                  rw [h8] at HK
                  have HO : Hid (out = false) := hid (by rw [HE.out]; simp [h1, h2, h3, h4, h5, h6, h7, h8])
                  clear HE
                  go_enter Tryz.func19, Tryz.ntmps19
                  go_wp2_with fail
                  refine (HN.out _ HK1.out).mono ?_
                  rintro e w2 ⟨rfl, k2⟩
                  have HK2 := hid (kept_trans HK1.out k2)
                  have HA2 := hid (at_kept HA1.out k2)
                  clear k2 x0 x1 x2 x3 x4 x5 x6 x7 x8 x9 xa xb
                  obtain ⟨⟨x0, x1, x2, x3, x4, x5, x6, x7, x8, x9, xa, xb⟩, -⟩ := cells12 HA2.out
                  go_wp2_with fail
                  refine (HK.out _ HK2.out).mono ?_
                  rintro e w3 ⟨rfl, k3⟩
                  have HK3 := hid (kept_trans HK2.out k3)
                  have HA3 := hid (at_kept HA2.out k3)
                  clear k3 x0 x1 x2 x3 x4 x5 x6 x7 x8 x9 xa xb
                  obtain ⟨⟨x0, x1, x2, x3, x4, x5, x6, x7, x8, x9, xa, xb⟩, -⟩ := cells12 HA3.out
                  go_wp2_with fail
                  go_ret
                  exact ⟨ret_bool HO.out.symm, HK3.out⟩
                | true =>
                  rw [h8] at HK
                  cases h9 : bR with
                  | false =>
                    rw [h9] at HRc
                    have HO : Hid (out = false) := hid (by rw [HE.out]; simp [h1, h2, h3, h4, h5, h6, h7, h8, h9])
                    clear HE
                    go_enter Tryz.func19, Tryz.ntmps19
                    go_wp2_with fail
                    refine (HN.out _ HK1.out).mono ?_
                    rintro e w2 ⟨rfl, k2⟩
                    have HK2 := hid (kept_trans HK1.out k2)
                    have HA2 := hid (at_kept HA1.out k2)
                    clear k2 x0 x1 x2 x3 x4 x5 x6 x7 x8 x9 xa xb
                    obtain ⟨⟨x0, x1, x2, x3, x4, x5, x6, x7, x8, x9, xa, xb⟩, -⟩ := cells12 HA2.out
                    go_wp2_with fail
                    refine (HK.out _ HK2.out).mono ?_
                    rintro e w3 ⟨rfl, k3⟩
                    have HK3 := hid (kept_trans HK2.out k3)
                    have HA3 := hid (at_kept HA2.out k3)
                    clear k3 x0 x1 x2 x3 x4 x5 x6 x7 x8 x9 xa xb
                    obtain ⟨⟨x0, x1, x2, x3, x4, x5, x6, x7, x8, x9, xa, xb⟩, -⟩ := cells12 HA3.out
                    go_wp2_with fail
                    refine (HRc.out _ HK3.out).mono ?_
                    rintro e w4 ⟨rfl, k4⟩
                    have HK4 := hid (kept_trans HK3.out k4)
                    have HA4 := hid (at_kept HA3.out k4)
                    clear k4 x0 x1 x2 x3 x4 x5 x6 x7 x8 x9 xa xb
                    obtain ⟨⟨x0, x1, x2, x3, x4, x5, x6, x7, x8, x9, xa, xb⟩, -⟩ := cells12 HA4.out
                    go_wp2_with fail
                    go_ret
                    exact ⟨ret_bool HO.out.symm, HK4.out⟩
                  | true =>
                    rw [h9] at HRc
                    cases h10 : bS with
                    | false =>
                      rw [h10] at HS
                      have HO : Hid (out = false) := hid (by rw [HE.out]; simp [h1, h2, h3, h4, h5, h6, h7, h8, h9, h10])
                      clear HE
                      go_enter Tryz.func19, Tryz.ntmps19
                      go_wp2_with fail
                      refine (HN.out _ HK1.out).mono ?_
                      rintro e w2 ⟨rfl, k2⟩
                      have HK2 := hid (kept_trans HK1.out k2)
                      have HA2 := hid (at_kept HA1.out k2)
                      clear k2 x0 x1 x2 x3 x4 x5 x6 x7 x8 x9 xa xb
                      obtain ⟨⟨x0, x1, x2, x3, x4, x5, x6, x7, x8, x9, xa, xb⟩, -⟩ := cells12 HA2.out
                      go_wp2_with fail
                      refine (HK.out _ HK2.out).mono ?_
                      rintro e w3 ⟨rfl, k3⟩
                      have HK3 := hid (kept_trans HK2.out k3)
                      have HA3 := hid (at_kept HA2.out k3)
                      clear k3 x0 x1 x2 x3 x4 x5 x6 x7 x8 x9 xa xb
                      obtain ⟨⟨x0, x1, x2, x3, x4, x5, x6, x7, x8, x9, xa, xb⟩, -⟩ := cells12 HA3.out
                      go_wp2_with fail
                      refine (HRc.out _ HK3.out).mono ?_
                      rintro e w4 ⟨rfl, k4⟩
                      have HK4 := hid (kept_trans HK3.out k4)
                      have HA4 := hid (at_kept HA3.out k4)
                      clear k4 x0 x1 x2 x3 x4 x5 x6 x7 x8 x9 xa xb
                      obtain ⟨⟨x0, x1, x2, x3, x4, x5, x6, x7, x8, x9, xa, xb⟩, -⟩ := cells12 HA4.out
                      go_wp2_with fail
                      refine (HS.out _ HK4.out).mono ?_
                      rintro e w5 ⟨rfl, k5⟩
                      have HK5 := hid (kept_trans HK4.out k5)
                      have HA5 := hid (at_kept HA4.out k5)
                      clear k5 x0 x1 x2 x3 x4 x5 x6 x7 x8 x9 xa xb
                      obtain ⟨⟨x0, x1, x2, x3, x4, x5, x6, x7, x8, x9, xa, xb⟩, -⟩ := cells12 HA5.out
                      go_wp2_with fail
                      go_ret
                      exact ⟨ret_bool HO.out.symm, HK5.out⟩
                    | true =>
                      rw [h10] at HS
                      by_cases h11 : n5 ≤ 4096
                      · have h0 := h11
                        clear h0
                        have HO : Hid (out = true) := hid (by rw [HE.out]; simp [h1, h2, h3, h4, h5, h6, h7, h8, h9, h10, h11])
                        have hz5 : (n5 : Int) ≤ 4096 := by omega
                        clear HE
                        go_enter Tryz.func19, Tryz.ntmps19
                        go_wp2_with fail
                        refine (HN.out _ HK1.out).mono ?_
                        rintro e w2 ⟨rfl, k2⟩
                        have HK2 := hid (kept_trans HK1.out k2)
                        have HA2 := hid (at_kept HA1.out k2)
                        clear k2 x0 x1 x2 x3 x4 x5 x6 x7 x8 x9 xa xb
                        obtain ⟨⟨x0, x1, x2, x3, x4, x5, x6, x7, x8, x9, xa, xb⟩, -⟩ := cells12 HA2.out
                        go_wp2_with fail
                        refine (HK.out _ HK2.out).mono ?_
                        rintro e w3 ⟨rfl, k3⟩
                        have HK3 := hid (kept_trans HK2.out k3)
                        have HA3 := hid (at_kept HA2.out k3)
                        clear k3 x0 x1 x2 x3 x4 x5 x6 x7 x8 x9 xa xb
                        obtain ⟨⟨x0, x1, x2, x3, x4, x5, x6, x7, x8, x9, xa, xb⟩, -⟩ := cells12 HA3.out
                        go_wp2_with fail
                        refine (HRc.out _ HK3.out).mono ?_
                        rintro e w4 ⟨rfl, k4⟩
                        have HK4 := hid (kept_trans HK3.out k4)
                        have HA4 := hid (at_kept HA3.out k4)
                        clear k4 x0 x1 x2 x3 x4 x5 x6 x7 x8 x9 xa xb
                        obtain ⟨⟨x0, x1, x2, x3, x4, x5, x6, x7, x8, x9, xa, xb⟩, -⟩ := cells12 HA4.out
                        go_wp2_with fail
                        refine (HS.out _ HK4.out).mono ?_
                        rintro e w5 ⟨rfl, k5⟩
                        have HK5 := hid (kept_trans HK4.out k5)
                        have HA5 := hid (at_kept HA4.out k5)
                        clear k5 x0 x1 x2 x3 x4 x5 x6 x7 x8 x9 xa xb
                        obtain ⟨⟨x0, x1, x2, x3, x4, x5, x6, x7, x8, x9, xa, xb⟩, -⟩ := cells12 HA5.out
                        go_wp2_with fail
                        go_ret
                        exact ⟨ret_bool HO.out.symm, HK5.out⟩
                      · have h0 := h11
                        clear h0
                        have HO : Hid (out = false) := hid (by rw [HE.out]; simp [h1, h2, h3, h4, h5, h6, h7, h8, h9, h10, h11])
                        have hdec : decide (n5 ≤ 4096) = false := decide_eq_false h11
                        have hz5 : ¬ (n5 : Int) ≤ 4096 := by omega
                        have hd5 : decide ((n5 : Int) ≤ 4096) = false := decide_eq_false hz5
                        clear HE
                        go_enter Tryz.func19, Tryz.ntmps19
                        go_wp2_with fail
                        refine (HN.out _ HK1.out).mono ?_
                        rintro e w2 ⟨rfl, k2⟩
                        have HK2 := hid (kept_trans HK1.out k2)
                        have HA2 := hid (at_kept HA1.out k2)
                        clear k2 x0 x1 x2 x3 x4 x5 x6 x7 x8 x9 xa xb
                        obtain ⟨⟨x0, x1, x2, x3, x4, x5, x6, x7, x8, x9, xa, xb⟩, -⟩ := cells12 HA2.out
                        go_wp2_with fail
                        refine (HK.out _ HK2.out).mono ?_
                        rintro e w3 ⟨rfl, k3⟩
                        have HK3 := hid (kept_trans HK2.out k3)
                        have HA3 := hid (at_kept HA2.out k3)
                        clear k3 x0 x1 x2 x3 x4 x5 x6 x7 x8 x9 xa xb
                        obtain ⟨⟨x0, x1, x2, x3, x4, x5, x6, x7, x8, x9, xa, xb⟩, -⟩ := cells12 HA3.out
                        go_wp2_with fail
                        refine (HRc.out _ HK3.out).mono ?_
                        rintro e w4 ⟨rfl, k4⟩
                        have HK4 := hid (kept_trans HK3.out k4)
                        have HA4 := hid (at_kept HA3.out k4)
                        clear k4 x0 x1 x2 x3 x4 x5 x6 x7 x8 x9 xa xb
                        obtain ⟨⟨x0, x1, x2, x3, x4, x5, x6, x7, x8, x9, xa, xb⟩, -⟩ := cells12 HA4.out
                        go_wp2_with fail
                        refine (HS.out _ HK4.out).mono ?_
                        rintro e w5 ⟨rfl, k5⟩
                        have HK5 := hid (kept_trans HK4.out k5)
                        have HA5 := hid (at_kept HA4.out k5)
                        clear k5 x0 x1 x2 x3 x4 x5 x6 x7 x8 x9 xa xb
                        obtain ⟨⟨x0, x1, x2, x3, x4, x5, x6, x7, x8, x9, xa, xb⟩, -⟩ := cells12 HA5.out
                        go_wp2_with fail
                        go_ret
                        exact ⟨ret_bool HO.out.symm, HK5.out⟩
            · have h0 := h6
              clear h0
              have HO : Hid (out = false) := hid (by rw [HE.out]; simp [h1, h2, h3, h4, h5, h6])
              have hdec : decide (m.rng < 64) = false := decide_eq_false h6
              clear HE
              go_enter Tryz.func19, Tryz.ntmps19
              go_wp2_with fail
              go_ret
              exact ⟨ret_bool HO.out.symm, HK1.out⟩
          · have h0 := h5
            clear h0
            have HO : Hid (out = false) := hid (by rw [HE.out]; simp [h1, h2, h3, h4, h5])
            have hdec : decide (m.tgt < 64) = false := decide_eq_false h5
            clear HE
            go_enter Tryz.func19, Tryz.ntmps19
            go_wp2_with fail
            go_ret
            exact ⟨ret_bool HO.out.symm, HK1.out⟩
        · have h0 := h4
          clear h0
          have HO : Hid (out = false) := hid (by rw [HE.out]; simp [h1, h2, h3, h4])
          have hdec : decide (m.dst < 64) = false := decide_eq_false h4
          clear HE
          go_enter Tryz.func19, Tryz.ntmps19
          go_wp2_with fail
          go_ret
          exact ⟨ret_bool HO.out.symm, HK1.out⟩
      · have h0 := h3
        clear h0
        have HO : Hid (out = false) := hid (by rw [HE.out]; simp [h1, h2, h3])
        have hdec : decide (m.frm < 64) = false := decide_eq_false h3
        clear HE
        go_enter Tryz.func19, Tryz.ntmps19
        go_wp2_with fail
        go_ret
        exact ⟨ret_bool HO.out.symm, HK1.out⟩
    · have h0 := h2
      clear h0
      have HO : Hid (out = false) := hid (by rw [HE.out]; simp [h1, h2])
      have hdec : decide (m.kind ≤ 14) = false := decide_eq_false h2
      clear HE
      go_enter Tryz.func19, Tryz.ntmps19
      go_wp2_with fail
      go_ret
      exact ⟨ret_bool HO.out.symm, HK1.out⟩
  · have h0 := h1
    clear h0
    have HO : Hid (out = false) := hid (by rw [HE.out]; simp [h1])
    have hdec : decide (1 ≤ m.kind) = false := decide_eq_false h1
    clear HE
    go_enter Tryz.func19, Tryz.ntmps19
    go_wp2_with fail
    go_ret
    exact ⟨ret_bool HO.out.symm, HK1.out⟩
end Go.Proofs.YtioeidhblbfgmaaGreat


namespace Go.Proofs.YtioeidhblbfgmaaGreat
open Go.ChangeShapes Go.WideShapes Go.ChangeAt Go.RowKit
set_option linter.unusedVariables false
set_option linter.unusedSimpArgs false
set_option maxRecDepth 100000

def encU (x : UInt8) : List Value := [.int .u8 (x.toNat : Int)]
theorem encU_ok : Enc encU 1 := ⟨by decide, fun _ => rfl, fun x v hv => by
  simp only [encU, List.mem_cons, List.not_mem_nil, or_false] at hv
  subst hv; rfl⟩
theorem flatU (l : List UInt8) : flatE encU l = l.map fun x => Value.int .u8 (x.toNat : Int) := by
  induction l with
  | nil => rfl
  | cons x l ih => rw [flatE_cons, ih]; rfl
theorem strU (s : ByteArray) : Lib.strCells s = flatE encU s.data.toList := by
  rw [flatU, Lib.strCells_eq]
  rfl
theorem sizeU (s : ByteArray) : s.data.toList.length = s.size := by simp
theorem lies_writer : liesAt Tryz.prog Tryz.prog.depth 111 (2 / Tryz.prog.cellsOf 111) 0 109 1 = true := by kernel_rfl
theorem size_builder : (Tryz.prog.info? 109).map (·.size) = some 2 := by kernel_rfl
theorem cells_byte : Tryz.prog.cellsOf 5 = 1 := by kernel_rfl
/- What is being built: its bytes lie in a row of its own. -/
structure Bld (W : World) (X : Nat) (b : ByteArray) (w : World) : Prop where
  at_ : ∃ p v, (p = .pointer none ∨ p = .pointer (some ⟨X, 0, none⟩)) ∧ At w X #[p, v] 111 ∧ Og encU 1 5 w W.heap.size v b.data.toList
  k : Kept W w
  le : W.heap.size ≤ X
/- What a write may turn: the writer's block, and rows of bytes that are new. -/
def WrT (X : Nat) (w w' : World) : Prop := w'.os = w.os ∧ w'.output = w.output ∧ w.heap.size ≤ w'.heap.size ∧ ∀ Z cs T, At w Z cs T → Z ≠ X → T ≠ 5 → At w' Z cs T
theorem wrt_refl (X : Nat) (w : World) : WrT X w w := ⟨rfl, rfl, Nat.le_refl _, fun _ _ _ h _ _ => h⟩
theorem wrt_trans {X : Nat} {u v w : World} (h : WrT X u v) (g : WrT X v w) : WrT X u w := ⟨g.1.trans h.1, g.2.1.trans h.2.1, Nat.le_trans h.2.2.1 g.2.2.1, fun Z cs T a b c => g.2.2.2 Z cs T (h.2.2.2 Z cs T a b c) b c⟩
theorem wrt_kept {X : Nat} {w w' : World} (k : Kept w w') : WrT X w w' := ⟨kept_os k, kept_output k, k.2, fun Z cs T a _ _ => at_kept a k⟩
theorem at_wrt {X Z T : Nat} {cs : Array Value} {w w' : World} (h : At w Z cs T) (t : WrT X w w') (hn : Z ≠ X) (hT : T ≠ 5) : At w' Z cs T := t.2.2.2 Z cs T h hn hT
theorem bld_kept {W w w' : World} {X : Nat} {b : ByteArray} (h : Bld W X b w) (k : Kept w w') : Bld W X b w' := by
  obtain ⟨⟨p, v, hp, ha, ho⟩, hk, hl⟩ := h
  exact ⟨⟨p, v, hp, at_kept ha k, og_stays ho k⟩, kept_trans hk k, hl⟩
theorem wrt_grown {W w w' : World} {X : Nat} {v : Value} {l : List UInt8} (ho : Og encU 1 5 w W.heap.size v l) (g : w.grownBy w' v.ownBlock) : WrT X w w' :=
  ⟨g.os, g.output, g.size, fun Z cs T h _ hT => (g.block Z (at_lt h) (fun e => own_ne ho h (Ne.symm hT) Z e.symm rfl)).trans h⟩
theorem copy_fresh (X : Nat) (v : Value) (w : World) (h : At w X #[.pointer none, v] 111) :
    Calls Tryz.prog 117 #[.pointer (some ⟨X, 0, none⟩)] w fun e w' => e = .returned (.tuple #[]) ∧ w' = w.setCell ⟨X, 0, none⟩ (.pointer (some ⟨X, 0, none⟩)) := by
  obtain ⟨j, hj, hjs⟩ := Option.map_eq_some_iff.1 size_builder
  have c0 : w.cell? ⟨X, 0, none⟩ = some (.pointer none) := at_cell h 0
  have cf := at_frozen h
  have hsh : w.shape? X = some (111, 2) := by simp [World.shape?, show w.heap[X]? = _ from h]
  have h1 : (convert 107 197 (.pointer (some ⟨X, 0, none⟩))).run Tryz.prog w = .ok (.pointer (some ⟨X, 0, none⟩)) w := Lib.run_to_unsafe (w := w) ⟨X, 0, none⟩ Tryz.underlying107 Tryz.underlying197 hj (by rw [hjs]; decide) hsh (Nat.zero_lt_succ 1)
  have h2 : (convert 197 107 (.pointer (some ⟨X, 0, none⟩))).run Tryz.prog w = .ok (.pointer (some ⟨X, 0, none⟩)) w := Lib.run_from_unsafe (w := w) ⟨X, 0, none⟩ Tryz.underlying197 Tryz.underlying107 hj hsh lies_writer
  have h3 : ∀ (x : Value) (u : World), (callFunc 129 #[x]).run Tryz.prog u = .ok (.value x) u := fun x u => by
    rw [run_callFunc_extern (P := Tryz.prog) Tryz.func129 (by kernel_rfl) (by kernel_rfl) (by kernel_rfl) (e := Extern.AbiNoEscape.same) (by kernel_rfl), Lib.run_noEscape]
    rfl
  clear h hsh hj
  go_enter Tryz.func117, Tryz.ntmps117
  go_wp2
  refine bodyPost_end (v := .tuple #[]) (by kernel_rfl) rfl ?_
  exact ⟨rfl, rfl⟩
theorem copy_used (X : Nat) (v : Value) (w : World) (h : At w X #[.pointer (some ⟨X, 0, none⟩), v] 111) :
    Calls Tryz.prog 117 #[.pointer (some ⟨X, 0, none⟩)] w fun e w' => e = .returned (.tuple #[]) ∧ w' = w := by
  have c0 : w.cell? ⟨X, 0, none⟩ = some (.pointer (some ⟨X, 0, none⟩)) := at_cell h 0
  have cf := at_frozen h
  obtain ⟨j, hj, hjs⟩ := Option.map_eq_some_iff.1 size_builder
  have hne := Lib.run_neq_ptr_same (P := Tryz.prog) w ⟨X, 0, none⟩ Tryz.underlying107 hj
  clear h
  go_enter Tryz.func117, Tryz.ntmps117
  go_wp2
  refine bodyPost_end (v := .tuple #[]) (by kernel_rfl) rfl ?_
  exact ⟨rfl, rfl⟩
theorem copy_any (W : World) (X : Nat) (b : ByteArray) (w : World) (h : Bld W X b w) :
    Calls Tryz.prog 117 #[.pointer (some ⟨X, 0, none⟩)] w fun e w' => e = .returned (.tuple #[]) ∧ ∃ v, At w' X #[.pointer (some ⟨X, 0, none⟩), v] 111 ∧ Og encU 1 5 w' W.heap.size v b.data.toList ∧ Kept W w' ∧ WrT X w w' := by
  obtain ⟨⟨p, v, rfl | rfl, ha, ho⟩, hk, hl⟩ := h
  · refine (copy_fresh X v w ha).mono ?_
    rintro e w' ⟨rfl, rfl⟩
    refine ⟨rfl, v, at_set ha 0 (.pointer (some ⟨X, 0, none⟩)), og_tn ho (tn_set w X 0 (.pointer (some ⟨X, 0, none⟩))) (fun g hg => own_ne ho ha (by decide) g hg), kept_set hk hl 0 _, ?_⟩
    exact ⟨rfl, rfl, by simp [World.setCell], fun Z cs T hz hn _ => at_other hz hn 0 _⟩
  · refine (copy_used X v w ha).mono ?_
    rintro e w' ⟨rfl, rfl⟩
    exact ⟨rfl, v, ha, ho, hk, wrt_refl X _⟩
set_option maxHeartbeats 3200000 in
theorem write_any (W : World) (X : Nat) (b s : ByteArray) (w : World) (h : Bld W X b w) (hlen : b.size + s.size ≤ 140737488355328) :
    Calls Tryz.prog 90 #[.pointer (some ⟨X, 0, none⟩), .string s] w fun e w' => e = .returned (.tuple #[.int .i64 (s.size : Int), .nilIface]) ∧ Bld W X (b ++ s) w' ∧ WrT X w w' := by
  have hC := copy_any W X b w h
  have hX := h.le
  obtain ⟨i0, hi, hz0, hz1, hz2⟩ := info_parts info5
  have HL : Hid (b.data.toList.length + s.size ≤ 140737488355328) := hid (by rw [sizeU]; exact hlen)
  have HB : Hid ((b ++ s).data.toList = b.data.toList ++ s.data.toList) := hid (by simp)
  have HS : Hid (Lib.strCells s = flatE encU s.data.toList) := hid (strU s)
  have HZ : Hid (s.data.toList.length = s.size) := hid (sizeU s)
  generalize b.data.toList = l at *
  generalize b ++ s = bs at *
  clear h hlen
  go_enter Tryz.func90, Tryz.ntmps90
  go_wp2_with fail
  refine hC.mono ?_
  rintro e w1 ⟨rfl, v, ha, ho, hk, ht⟩
  have c0 : w1.cell? ⟨X, 0, none⟩ = some (.pointer (some ⟨X, 0, none⟩)) := at_cell ha 0
  have c1 : w1.cell? ⟨X, 1, none⟩ = some v := at_cell ha 1
  have HA := hid ha
  have HO := hid ho
  have HK := hid hk
  have HT := hid ht
  clear ha ho hk ht hC
  go_wp2_with (at_builtin; go_must (refine Lib.wpList_append_own_string _ rfl (.tmp 12) (.tmp 13) 51 9 rfl W.heap.size 5 i0 Tryz.underlying51 Tryz.underlying9 hi hz0 hz1 hz2 v l.length (flatE encU l) rfl HO.out s rfl (by have := HL.out; unfold maxLen; omega) HL.out HK.out.2 ?_; intro v' w2 hown' hgrow hnil; have hO2 : Og encU 1 5 w2 W.heap.size v' (l ++ s.data.toList) := (by unfold Og; rw [List.length_append, HZ.out, flatE_app, ← HS.out]; exact hown'); have HO2 := hid hO2; have HA2 := hid (at_tn HA.out (tn_grown hgrow) (fun e => own_ne HO.out HA.out (by decide) X e rfl)); have HK2 := hid (kept_gr HK.out hgrow (fun g hg => og_lt HO.out hg)); have HT2 : Hid (WrT X w w2) := hid (wrt_trans HT.out (wrt_grown HO.out hgrow)); clear hown' hgrow hnil hO2 c0 c1; have c0 : w2.cell? ⟨X, 0, none⟩ = some (.pointer (some ⟨X, 0, none⟩)) := at_cell HA2.out 0; have c1 : w2.cell? ⟨X, 1, none⟩ = some v := at_cell HA2.out 1; have cf := at_frozen HA2.out; obtain ⟨va, vc, ev, -, -⟩ := og_is encU_ok HO2.out; rw [List.length_append, HZ.out] at ev; subst ev))
  go_ret2
  have hs : At (w2.setCell ⟨X, 1, none⟩ (.slice va (l.length + s.size) vc)) X #[.pointer (some ⟨X, 0, none⟩), .slice va (l.length + s.size) vc] 111 := at_set HA2.out 1 (.slice va (l.length + s.size) vc)
  refine ⟨rfl, ⟨⟨.pointer (some ⟨X, 0, none⟩), (.slice va (l.length + s.size) vc), .inr rfl, hs, ?_⟩, kept_set HK2.out hX 1 _, hX⟩, wrt_trans HT2.out ⟨rfl, rfl, by simp [World.setCell], fun Z cs T hz hn _ => at_other hz hn 1 _⟩⟩
  rw [HB.out]
  exact og_tn HO2.out (tn_set w2 X 1 _) (fun g hg => own_ne HO2.out HA2.out (by decide) g hg)
theorem kept_belowW {W w w' : World} (k : Kept W w) (h : Below W.heap.size w w') : Kept W w' := kept_of (h.os.trans (kept_os k)) (h.output.trans (kept_output k)) (Nat.le_trans k.2 h.size) (fun i hi => (h.block i hi).trans (kept_block k hi))
set_option maxHeartbeats 3200000 in
theorem string_any (W : World) (X : Nat) (b : ByteArray) (w : World) (h : Bld W X b w) (h0 : 0 < b.size) :
    Calls Tryz.prog 64 #[.pointer (some ⟨X, 0, none⟩)] w fun e w' => e = .returned (.string b) ∧ Kept W w' := by
  obtain ⟨⟨p, v, -, ha, ho⟩, hk, -⟩ := h
  obtain ⟨l, hl⟩ : ∃ l, b.data.toList = l := ⟨_, rfl⟩
  have hb : b = ⟨l.toArray⟩ := by rw [← hl]
  rw [hl] at ho
  have hl0 : l ≠ [] := by
    intro e
    rw [hb, e] at h0
    exact absurd h0 (by decide)
  rcases ho.2 with ⟨_, hz⟩ | ⟨g, cap, cur, rfl, hB, hg, hnc, hcm, hcs, htake⟩
  · exact absurd (List.length_eq_zero_iff.1 hz) hl0
  have hln : 0 < l.length := List.length_pos_iff.2 hl0
  have c1 : w.drew.cell? ⟨X, 1, none⟩ = some (.slice (some ⟨g, 0, none⟩) l.length cap) := at_cell (at_drew ha) 1
  have hcell : ∀ j x, l[j]? = some x → w.drew.cell? ((⟨g, 0, none⟩ : Addr).add j) = some (.int .u8 x.toNat) := fun j x hj => by
    have hjl := (List.getElem?_eq_some_iff.1 hj).1
    have hx : cur.toList[j]? = some (.int .u8 (x.toNat : Int)) := by
      have h9 : (cur.toList.take (l.length * 1))[j]? = (flatE encU l)[j]? := by rw [htake]
      rw [List.getElem?_take, if_pos (by omega), flatU, List.getElem?_map, hj] at h9
      exact h9
    rw [addr_plus, Nat.zero_add, at_cell (show At w.drew g cur 5 from hg)]
    simpa using hx
  have hSD : (Builtin.unsafeSliceData_ #[51] 164 #[.slice (some ⟨g, 0, none⟩) l.length cap]).run Tryz.prog w.drew = .ok (.pointer (some ⟨g, 0, none⟩)) w.drew := Lib.run_unsafeSliceData_row _ _ _ _ _ _ (by omega)
  have hUS : (Builtin.unsafeString_ #[164, 3] 9 #[.pointer (some ⟨g, 0, none⟩), .int .i64 l.length]).run Tryz.prog w.drew = .ok (.string ⟨l.toArray⟩) (w.drew.freeze ⟨g, 0, none⟩ l.length) :=
    Lib.run_unsafeString_row w.drew 164 3 9 5 Tryz.underlying164 cells_byte g cur.size (by simp [World.shape?, show w.drew.heap[g]? = _ from hg]) l hl0 (by omega) (by unfold maxLen at hcm; omega) hcell
  have HK : Hid (Kept W (w.drew.freeze ⟨g, 0, none⟩ l.length)) := hid (kept_belowW hk (Lib.below_freeze (Below.drew (Below.refl W.heap.size w)) (p := ⟨g, 0, none⟩) hB _))
  rw [hb]
  clear hcell ha ho hk hg htake h0 hl hb hcs hcm hnc
  go_enter Tryz.func64, Tryz.ntmps64
  have mixed : Tryz.prog.follows .mixedOrders = true := by kernel_rfl
  go_wp2
  go_region_o
  all_goals (go_wp2; go_ret; exact ⟨rfl, HK.out⟩)
end Go.Proofs.YtioeidhblbfgmaaGreat
