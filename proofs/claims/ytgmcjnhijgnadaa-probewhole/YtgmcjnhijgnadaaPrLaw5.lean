/- The walk of ProbeWhole itself. -/
import Derived.Test.YtgmcjnhijgnadaaPrLaw4
namespace Go.Proofs.Ytgmcjnhijgnadaa
open Go.ChangeShapes Go.WideShapes Go.ChangeAt Go.RowKit
set_option linter.unusedVariables false
set_option linter.unusedSimpArgs false
set_option maxRecDepth 100000

def DtOk (d : Dt) : Prop := okU d.node ∧ (0 ≤ d.inc ∧ d.inc < 4294967296) ∧ (0 ≤ d.t ∧ d.t < 18446744073709551616)
structure Wh (D : Shape Ds) (W : World) (X n : Nat) (now : Int) (g : Int → Option Db) (F : Nat → Prop) (m : Nat) (B : Int → Option Dt) (w : World) : Prop where
  t : TT D W X ⟨n, g⟩ F w
  d : Gd' mapDt w m B
  o : Off w F m
  b : W.heap.size ≤ m
  r : BG n now B g
section
variable {D : Shape Ds} {W w w' : World} {X n m : Nat} {now : Int} {g g' : Int → Option Db} {F F' : Nat → Prop} {B B' : Int → Option Dt}
theorem wh_kept (hD : DoubtsIs D) (h : Wh D W X n now g F m B w) (k : Kept w w') : Wh D W X n now g F m B w' := ⟨tt_kept hD.obj h.t k, gd_kept h.d k, off_kept h.o k, h.b, h.r⟩
theorem wh_put (hD : DoubtsIs D) (ht : TT D W X ⟨n, g⟩ F w) (o : Off w F m) (b : W.heap.size ≤ m) (d : Gd' mapDt w' m B) (t : w.mapTurned w' m) (r : BG n now B g) : Wh D W X n now g F m B w' := ⟨tt_turned hD.obj ht o b t, d, off_turned o t, b, r⟩
end
theorem cells4 {w : World} {X T : Nat} {a0 a1 a2 a3 : Value} (h : At w X #[a0, a1, a2, a3] T) : w.cell? ⟨X, 0, none⟩ = some a0 ∧ w.cell? ⟨X, 1, none⟩ = some a1 ∧ w.cell? ⟨X, 2, none⟩ = some a2 ∧ w.cell? ⟨X, 3, none⟩ = some a3 := ⟨at_cell h 0, at_cell h 1, at_cell h 2, at_cell h 3⟩
set_option maxHeartbeats 25600000 in
theorem whole_walk {T : Shape Pb} {D : Shape Ds} (hT : ProbeIs T) (hD : DoubtsIs D) (t16 : Int) (ht : 0 ≤ t16) (ht2 : t16 < 65536) (ops : List Dt) (hx : ∀ d ∈ ops, DtOk d) (v : Value) (w : World) (h : Rg encD 4 w v ops) : Calls Try.prog 6 #[.int .u16 t16, v] w fun e w' => e = .returned (.bool true) ∧ Kept w w' := by
  have HD := hid hD
  have HF := hid (fun u => fixed_any hT u)
  have HR := hid h
  have HX := hid hx
  obtain ⟨a, cap, rfl, hc1, hc2, -, -⟩ := h
  unfold maxLen at hc2
  have HG : Hid (∀ i, i < ops.length → ∃ y, ops[i]? = some y ∧ DtOk y) := hid (fun i hi => ⟨ops[i], List.getElem?_eq_getElem hi, HX.out _ (List.getElem_mem hi)⟩)
  have HP : Hid (0 < ops.length → ∃ g o, a = some ⟨g, o, none⟩) := hid (fun hp => by
    obtain ⟨g, o, c, e⟩ := rg_pos HR.out hp
    injection e with e1
    exact ⟨g, o, e1⟩)
  obtain ⟨n0, hn0⟩ : ∃ r : Nat, t16 % 1000 = (r : Int) := ⟨(t16 % 1000).toNat, by omega⟩
  have e1 : Int.tmod t16 1000 = (n0 : Int) := by rw [Int.tmod_eq_emod_of_nonneg ht, hn0]
  have e3 : IntKind.i64.wrap t16 = t16 := IntWalk.i64_in _ (by omega)
  have e5 : IntKind.i64.wrap (n0 : Int) = (n0 : Int) := IntWalk.i64_in _ (by omega)
  have e7 : IntKind.i64.wrap (1 + (n0 : Int)) = ((1 + n0 : Nat) : Int) := by rw [IntWalk.i64_in _ (by omega)]; omega
  generalize hn : 1 + n0 = n at *
  have HN : Hid (1 ≤ n ∧ n ≤ 1000) := hid (by omega)
  have hNw := hD.new_ok n w HN.out.1 HN.out.2
  have HBg : Hid (∀ (X : Nat) (g : Int → Option Db) (F : Nat → Prop) (node inc now : Int) (u : World), TT D w X ⟨n, g⟩ F u → Du g → okU node → (0 ≤ inc ∧ inc < 4294967296) → 0 ≤ now → now ≤ 900000 → Calls Try.prog 20 #[.pointer (some ⟨X, 0, none⟩), .int .u8 node, .int .u32 inc, .int .u64 now] u fun e w' => ∃ F', e = .returned (.bool (mayB g node inc)) ∧ TT D w X ⟨n, if mayB g node inc then putG g node ⟨inc, now + (n : Int)⟩ else g⟩ F' w' ∧ Sd F u F' w') := hid (fun X g F node inc now u h1 h2 h3 h4 h5 h6 => (hD.begin X ⟨n, g⟩ F node inc now u h1.t h2 HN.out.1 HN.out.2 h3.1 h3.2 h4.1 h4.2 h5 h6).mono (by
    rintro e w' ⟨F', rfl, ht, s⟩
    exact ⟨F', rfl, tt_sd h1 ht s, s⟩))
  have HEn : Hid (∀ (X : Nat) (g : Int → Option Db) (F : Nat → Prop) (node inc : Int) (u : World), TT D w X ⟨n, g⟩ F u → Du g → okU node → (0 ≤ inc ∧ inc < 4294967296) → Calls Try.prog 21 #[.pointer (some ⟨X, 0, none⟩), .int .u8 node, .int .u32 inc] u fun e w' => ∃ F', e = .returned (.bool (mayE g node inc)) ∧ TT D w X ⟨n, if mayE g node inc then delG g node else g⟩ F' w' ∧ Sd F u F' w') := hid (fun X g F node inc u h1 h2 h3 h4 => (hD.fin X ⟨n, g⟩ F node inc u h1.t h2 h3.1 h3.2 h4.1 h4.2).mono (by
    rintro e w' ⟨F', rfl, ht, s⟩
    exact ⟨F', rfl, tt_sd h1 ht s, s⟩))
  have HOv : Hid (∀ (X : Nat) (g : Int → Option Db) (F : Nat → Prop) (now : Int) (u : World), TT D w X ⟨n, g⟩ F u → Du g → 0 ≤ now → now ≤ 900000 → Calls Try.prog 22 #[.pointer (some ⟨X, 0, none⟩), .int .u64 now] u fun e w' => ∃ r F', e = .returned r ∧ Rg encN 3 w' r (overL g now) ∧ TT D w X ⟨n, leftG g now⟩ F' w' ∧ Sd F u F' w') := hid (fun X g F now u h1 h2 h5 h6 => (hD.over X ⟨n, g⟩ F now u h1.t h2 h5 (by omega)).mono (by
    rintro e w' ⟨r, F', rfl, hr, ht, s⟩
    exact ⟨r, F', rfl, hr, tt_sd h1 ht s, s⟩))
  have hz := zeroD
  have hz2 := zeroN
  have hmm := @run_makeMap Try.prog
  have HNd : Hid (∀ u64 : Int, 0 ≤ u64 → u64 < 18446744073709551616 → ∃ c : Nat, c < 100 ∧ Int.tmod u64 100 = (c : Int)) := hid (fun u h1 h2 => ⟨(u % 100).toNat, by omega, by rw [Int.tmod_eq_emod_of_nonneg h1]; omega⟩)
  generalize hm : ops.length = m at *
  clear hm hT hD hx ht ht2 hn0 hn
  go_enter Try.func6, Try.ntmps6
  go_wp2_with fail
  refine hNw.mono ?_
  rintro e w1 ⟨X, F, rfl, t1, k1, f1⟩
  have HT1 : Hid (TT D w X ⟨n, fun _ => none⟩ F w1) := hid ⟨t1, k1, f1⟩
  clear t1 k1 f1 hNw e1 e3 e5 e7
  go_wp2_with fail
  refine (HF.out w1).mono ?_
  rintro e w2 ⟨rfl, k2⟩
  have HT2 := hid (tt_kept HD.out.obj HT1.out k2)
  clear k2 HT1 HF
  have HD2 := hid (gd_made (M := mapDt) w2)
  have k3 := kept_alloc (kept_refl w2) (.map #[] 0)
  have HWh : Hid (Wh D w X n 0 (fun _ => none) F w2.heap.size (fun _ => none) (w2.alloc (.map #[] 0))) := hid ⟨tt_kept HD.out.obj HT2.out k3, HD2.out, off_new HD.out.obj HT2.out (Nat.le_refl _) (gm_lt HD2.out), HT2.out.k.2, bg_start n 0⟩
  clear k3 HD2
  go_wp2_with fail
  generalize w2.alloc (.map #[] 0) = w3 at *
  generalize w2.heap.size = mb at *
  clear HT2
  go_loopw [9, 34] (fun nv iv wr => ∃ (i now : Nat) (g : Int → Option Db) (F' : Nat → Prop) (B : Int → Option Dt), i ≤ m ∧ iv = .int .i64 (i : Int) ∧ nv = .int .u64 (now : Int) ∧ Hid (now ≤ 100 * i ∧ i ≤ 201) ∧ Hid (Wh D w X n (now : Int) g F' mb B wr)) (fun _ iv _ => m - (intOf iv).toNat)
  case atStart => exact ⟨0, 0, _, F, _, by omega, rfl, rfl, hid (by omega), HWh⟩
  case round =>
    obtain ⟨i, now, g, F', B, hi, rfl, rfl, HI, HW⟩ := hrel
    clear HWh
    by_cases hlt : i < m
    · obtain ⟨y, hy, hyk⟩ := HG.out i hlt
      obtain ⟨gg, oo, rfl⟩ := HP.out (by omega)
      obtain ⟨c0, c1, c2, c3⟩ := rg_D (rg_kept encD_ok HR.out HW.out.t.k) hy
      have HY := hid hyk
      clear hy hyk
      have HZ := hid (at_new wr #[.int .i64 y.kind, .int .u8 y.node, .int .u32 y.inc, .int .u64 y.t] 64)
      have ka := kept_alloc (kept_refl wr) (.cells #[.int .i64 y.kind, .int .u8 y.node, .int .u32 y.inc, .int .u64 y.t] 64)
      have HWa := hid (wh_kept HD.out HW.out ka)
      have HOa := hid (off_new HD.out.obj HW.out.t (Nat.le_refl _) (at_lt HZ.out))
      clear ka
      by_cases hbig : 200 < i
      · have hbigI : (200 : Int) < (i : Int) := by omega
        go_wp2_with fail
        go_ret
        exact ⟨rfl, HWa.out.t.k⟩
      · have hd : decide ((200 : Int) < (i : Int)) = false := by simp; omega
        obtain ⟨c, hc, hce⟩ := HNd.out y.t HY.out.2.2.1 HY.out.2.2.2
        have hwc : IntKind.u64.wrap (c : Int) = (c : Int) := by rw [IntKind.wrap_u64]; omega
        have hwn : IntKind.u64.wrap ((now : Int) + (c : Int)) = ((now + c : Nat) : Int) := by have := HI.out; rw [IntKind.wrap_u64]; omega
        have HI2 : Hid (now + c ≤ 100 * (i + 1) ∧ i + 1 ≤ 201) := hid (by have := HI.out; omega)
        replace HWa : Hid (Wh D w X n ((now + c : Nat) : Int) g F' mb B _) := hid ⟨HWa.out.t, HWa.out.d, HWa.out.o, HWa.out.b, bg_more HWa.out.r (by omega)⟩
        have HDu := hid (bg_du HWa.out.r HN.out.2 (by have := HI2.out; omega))
        obtain ⟨p0, p1, p2, p3⟩ := cells4 HZ.out
        obtain ⟨wa, hwa⟩ : ∃ wa, wr.alloc (.cells #[.int .i64 y.kind, .int .u8 y.node, .int .u32 y.inc, .int .u64 y.t] 64) = wa := ⟨_, rfl⟩
        obtain ⟨Z, hZ⟩ : ∃ Z, wr.heap.size = Z := ⟨_, rfl⟩
        rw [hwa, hZ] at HZ p0 p1 p2 p3
        rw [hwa] at HWa
        rw [hwa, hZ] at HOa
        generalize now + c = nw at *
        clear HW
        by_cases hk0 : y.kind = 0
        · have hb0 : (y.kind == 0) = true := by simpa using hk0
          clear hk0
          have hK := HBg.out X g F' y.node y.inc (nw : Int) wa HWa.out.t HDu.out HY.out.1 HY.out.2.1 (by omega) (by have := HI2.out; omega)
          cases hmay : mayB g y.node y.inc with
          | false =>
            rw [hmay] at hK
            go_wp2_with fail
            refine hK.mono ?_
            rintro e wb ⟨F2, rfl, tb, sb⟩
            have HWb : Hid (Wh D w X n (nw : Int) g F2 mb B wb) := hid ⟨tb, gd_block HWa.out.d (off_same HWa.out.o sb), off_sd HWa.out.o sb, HWa.out.b, HWa.out.r⟩
            clear tb sb hK HWa HOa HZ p0 p1 p2 p3 c0 c1 c2 c3 hwa hZ hce hwc hwn
            go_wp2_with fail
            go_roundw
            case rel => exact ⟨i + 1, nw, _, _, _, by omega, by go_num, rfl, HI2, HWb⟩
            case measure => simp [intOf]; omega
          | true =>
            rw [hmay] at hK
            go_wp2_with fail
            refine hK.mono ?_
            rintro e wb ⟨F2, rfl, tb, sb⟩
            have HOb := hid (off_sd HWa.out.o sb)
            obtain ⟨wc, hput, dc, tc⟩ := put_D (gd_block HWa.out.d (off_same HWa.out.o sb)) HY.out.1 ⟨0, 0, y.inc, (nw : Int)⟩
            have HWc : Hid (Wh D w X n (nw : Int) (putG g y.node ⟨y.inc, (nw : Int) + (n : Int)⟩) F2 mb (upd B y.node ⟨0, 0, y.inc, (nw : Int)⟩) wc) := hid (wh_put HD.out tb HOb.out HWa.out.b dc tc (bg_put HWa.out.r (by omega) HY.out.1 HY.out.2.1))
            have HZb := hid (at_sd HZ.out HOa.out sb)
            clear tb sb hK HWa HOa HZ p0 p1 p2 p3 c0 c1 c2 c3 hwa hZ hce hwc hwn dc tc HOb
            obtain ⟨p0, p1, p2, p3⟩ := cells4 HZb.out
            go_wp2_with fail
            go_roundw
            case rel => exact ⟨i + 1, nw, _, _, _, by omega, by go_num, rfl, HI2, HWc⟩
            case measure => simp [intOf]; omega
        · have hb0 : (y.kind == 0) = false := by simpa using hk0
          clear hk0
          by_cases hk1 : y.kind = 1
          · have hb1 : (y.kind == 1) = true := by simpa using hk1
            clear hk1
            have hK := HEn.out X g F' y.node y.inc wa HWa.out.t HDu.out HY.out.1 HY.out.2.1
            cases hmay : mayE g y.node y.inc with
            | false =>
              rw [hmay] at hK
              go_wp2_with fail
              refine hK.mono ?_
              rintro e wb ⟨F2, rfl, tb, sb⟩
              have HWb : Hid (Wh D w X n (nw : Int) g F2 mb B wb) := hid ⟨tb, gd_block HWa.out.d (off_same HWa.out.o sb), off_sd HWa.out.o sb, HWa.out.b, HWa.out.r⟩
              clear tb sb hK HWa HOa HZ p0 p1 p2 p3 c0 c1 c2 c3 hwa hZ hce hwc hwn
              go_wp2_with fail
              go_roundw
              case rel => exact ⟨i + 1, nw, _, _, _, by omega, by go_num, rfl, HI2, HWb⟩
              case measure => simp [intOf]; omega
            | true =>
              rw [hmay] at hK
              go_wp2_with fail
              refine hK.mono ?_
              rintro e wb ⟨F2, rfl, tb, sb⟩
              have HOb := hid (off_sd HWa.out.o sb)
              obtain ⟨wc, hput, dc, tc⟩ := del_D (gd_block HWa.out.d (off_same HWa.out.o sb)) HY.out.1 0
              have HWc : Hid (Wh D w X n (nw : Int) (delG g y.node) F2 mb (del B y.node) wc) := hid (wh_put HD.out tb HOb.out HWa.out.b dc tc (bg_del HWa.out.r y.node))
              have HZb := hid (at_sd HZ.out HOa.out sb)
              clear tb sb hK HWa HOa HZ p0 p1 p2 p3 c0 c1 c2 c3 hwa hZ hce hwc hwn dc tc HOb
              obtain ⟨p0, p1, p2, p3⟩ := cells4 HZb.out
              go_wp2_with fail
              go_roundw
              case rel => exact ⟨i + 1, nw, _, _, _, by omega, by go_num, rfl, HI2, HWc⟩
              case measure => simp [intOf]; omega
          · have hb1 : (y.kind == 1) = false := by simpa using hk1
            clear hk1
            have hK := HOv.out X g F' (nw : Int) wa HWa.out.t HDu.out (by omega) (by have := HI2.out; omega)
            go_wp2_with fail
            refine hK.mono ?_
            rintro e wb ⟨r, F2, rfl, rr, tb, sb⟩
            have HRb := hid rr
            have HB0 := hid (gd_block HWa.out.d (off_same HWa.out.o sb))
            have HOb := hid (off_sd HWa.out.o sb)
            have HTb := hid tb
            have HBo := hid (bg_over HWa.out.r)
            have HTo : Hid (∀ x ∈ overL g (nw : Int), okU x.node ∧ x.st = 3 ∧ ∃ d, B x.node = some d ∧ d.inc = x.inc ∧ d.t + (n : Int) ≤ (nw : Int) ∧ 0 ≤ d.t) := hid (fun x hx => over_begun HWa.out.r hx)
            have HOn := hid (over_once g (nw : Int))
            have HLn := hid (over_len g (nw : Int))
            have HWm : Hid (w.heap.size ≤ mb) := hid HWa.out.b
            clear tb sb rr hK HWa HOa HZ p0 p1 p2 p3 c0 c1 c2 c3 hwa hZ hce hwc hwn HDu
            generalize overL g (nw : Int) = tl at *
            generalize leftG g (nw : Int) = g2 at *
            obtain ⟨ra, rc, rfl, -, -, -, -⟩ := HRb.out
            have HGt : Hid (∀ j, j < tl.length → ∃ x, tl[j]? = some x) := hid (fun j hj => ⟨tl[j], List.getElem?_eq_getElem hj⟩)
            have HPt : Hid (0 < tl.length → ∃ g o, ra = some ⟨g, o, none⟩) := hid (fun hp => by
              obtain ⟨g, o, c, e⟩ := rg_pos HRb.out hp
              injection e with e1
              exact ⟨g, o, e1⟩)
            have HTT : Hid (tl.take tl.length = tl) := hid List.take_length
            have hq3 : tl.length ≤ 256 := HLn.out
            rw [← delL_nil B] at HB0
            generalize hql : tl.length = q at *
            clear hql
            go_wp2_with fail
            go_loopw [52] (fun jv wq => ∃ j : Nat, j ≤ q ∧ jv = .int .i64 (j : Int) ∧ Hid (TT D w X ⟨n, g2⟩ F2 wq) ∧ Hid (Gd' mapDt wq mb (delL B (tl.take j))) ∧ Hid (Off wq F2 mb) ∧ Hid (Rg encN 3 wq (.slice ra q rc) tl)) (fun jv _ => q - (intOf jv).toNat)
            case atStart => exact ⟨0, Nat.zero_le _, rfl, HTb, HB0, HOb, HRb⟩
            case round =>
              obtain ⟨j, hj, rfl, HTq, HBq, HOq, HRq⟩ := hrel
              clear HTb HB0 HOb HRb
              by_cases hjq : j < q
              · obtain ⟨x, hx⟩ := HGt.out j hjq
                obtain ⟨g3, o3, rfl⟩ := HPt.out (by omega)
                obtain ⟨c0, c1, c2⟩ := rg_N HRq.out hx
                obtain ⟨hxk, hxs, d, hBx, hdi, hdt, hd0⟩ := HTo.out x (List.mem_of_getElem? hx)
                have hno : delL B (tl.take j) x.node = some d := by unfold delL; rw [if_neg (once_next HOn.out hx)]; exact hBx
                have kq := kept_alloc (kept_refl wr) (.cells #[.int .u8 x.node, .int .u8 x.st, .int .u32 x.inc] 72)
                have a1 := at_new wr #[.int .u8 x.node, .int .u8 x.st, .int .u32 x.inc] 72
                obtain ⟨p0, p1, p2⟩ := at_cells3' a1
                have hl1 := look2_D (gd_kept HBq.out kq) hxk hno
                obtain ⟨w5, hw5⟩ : ∃ u, wr.alloc (.cells #[.int .u8 x.node, .int .u8 x.st, .int .u32 x.inc] 72) = u := ⟨_, rfl⟩
                obtain ⟨P1, hP1⟩ : ∃ u, wr.heap.size = u := ⟨_, rfl⟩
                rw [hw5] at kq a1 p0 p1 p2 hl1
                rw [hP1] at a1 p0 p1 p2
                have k6 := kept_alloc (kept_refl w5) (.cells #[.int .i64 d.kind, .int .u8 d.node, .int .u32 d.inc, .int .u64 d.t] 64)
                obtain ⟨s0, s1, s2, s3⟩ := cells4 (at_new w5 #[.int .i64 d.kind, .int .u8 d.node, .int .u32 d.inc, .int .u64 d.t] 64)
                obtain ⟨t0, t1, t2⟩ := at_cells3' (at_kept a1 k6)
                have HK6 := hid (kept_trans kq k6)
                obtain ⟨w7, hdel, dz, tz⟩ := del_D (gd_kept HBq.out HK6.out) hxk 0
                have HT7 := hid (tt_turned HD.out.obj (tt_kept HD.out.obj HTq.out HK6.out) (off_kept HOq.out HK6.out) HWm.out tz)
                have HB7 : Hid (Gd' mapDt w7 mb (delL B (tl.take (j + 1)))) := hid (by rw [take_next hx, delL_more]; exact dz)
                have HO7 := hid (off_turned (off_kept HOq.out HK6.out) tz)
                have HR7 := hid (rg_turned (rg_kept encN_ok HRq.out HK6.out) tz)
                have f1 : (d.inc != x.inc) = false := by simpa using hdi
                have f2 : IntKind.u64.wrap ((nw : Int) - d.t) = (nw : Int) - d.t := by have := HI2.out; rw [IntKind.wrap_u64]; omega
                have f3 : IntKind.u64.wrap (n : Int) = (n : Int) := by have := HN.out; rw [IntKind.wrap_u64]; omega
                have f4 : decide ((nw : Int) - d.t < (n : Int)) = false := by simp; omega
                have f5 : (x.st != 3) = false := by simpa using hxs
                clear hx hBx hdi hdt hd0 hno kq a1 k6 dz tz hxs HTq HBq HOq HRq hxk
                go_wp2_with fail
                go_roundw
                case rel => exact ⟨j + 1, by omega, by go_num, HT7, HB7, HO7, HR7⟩
                case measure => simp [intOf]; omega
              · have he : j = q := by omega
                subst he
                rw [HTT.out] at HBq
                have HWz : Hid (Wh D w X n (nw : Int) g2 F2 mb (delL B tl) wr) := hid ⟨HTq.out, HBq.out, HOq.out, HWm.out, HBo.out⟩
                go_wp2_with fail
                go_roundw
                case rel => exact ⟨i + 1, nw, _, _, _, by omega, by go_num, rfl, HI2, HWz⟩
                case measure => simp [intOf]; omega
    · have he : i = m := by omega
      subst he
      go_wp2_with fail
      go_ret
      exact ⟨rfl, HW.out.t.k⟩
end Go.Proofs.Ytgmcjnhijgnadaa
