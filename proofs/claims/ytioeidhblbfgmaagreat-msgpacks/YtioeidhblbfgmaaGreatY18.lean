/- The contract of the reference's Great: of a message that may be it tells whether it is more than is gone through; of another one it tells something. No condition. What the landed codecs must answer, as the laws' walks take it. -/
import Derived.Test.YtioeidhblbfgmaaGreatY14
import Derived.Test.YtioeidhblbfgmaaGreatY13

namespace Go.Proofs.YtioeidhblbfgmaaGreat
open Go.ChangeShapes Go.WideShapes Go.ChangeAt Go.RowKit
set_option linter.unusedVariables false
set_option linter.unusedSimpArgs false
set_option maxRecDepth 100000

theorem at_drewN {w : World} {X T : Nat} {cs : Array Value} (h : At w X cs T) (n : Nat) : At (w.drewN n) X cs T := h
theorem sumOf_next {α : Type} {g : α → Nat} {l : List α} {j : Nat} {y : α} (h : l[j]? = some y) : sumOf g (l.take (j + 1)) = sumOf g (l.take j) + g y := by
  rw [List.take_add_one, h]
  unfold sumOf
  rw [List.foldl_append]
  rfl
theorem sumOf_le {α : Type} (g : α → Nat) (l : List α) (j : Nat) : sumOf g (l.take j) ≤ sumOf g l := by
  have e : sumOf g l = sumOf g (l.take j) + sumOf g (l.drop j) := by
    have h9 := sumOf_from g (l.drop j) (sumOf g (l.take j))
    rw [← h9]
    unfold sumOf
    rw [← List.foldl_append, List.take_append_drop]
  omega
theorem wrapI (x : Int) : -9223372036854775808 ≤ IntKind.i64.wrap x ∧ IntKind.i64.wrap x ≤ 9223372036854775807 := by rw [IntKind.wrap_i64]; omega
theorem wrapI_id {x : Int} (h : -9223372036854775808 ≤ x ∧ x ≤ 9223372036854775807) : IntKind.i64.wrap x = x := by rw [IntKind.wrap_i64]; omega
def gK (x : ByteArray) : Nat := x.size
def gR (x : R) : Nat := x.key.size + x.body.size
def gS (x : Sn) : Nat := x.key.size
structure Small (m : Ms) : Prop where
  l : m.news.length ≤ 4096 ∧ m.keys.length ≤ 4096 ∧ m.recs.length ≤ 4096 ∧ m.seen.length ≤ 4096 ∧ m.digs.length ≤ 4096
  k : ∀ x ∈ m.keys, gK x ≤ 250
  r : ∀ x ∈ m.recs, gR x ≤ 1274
  s : ∀ x ∈ m.seen, gS x ≤ 250
theorem key_le {x : ByteArray} (h : keyMay x = true) : x.size ≤ 250 := by
  unfold keyMay at h
  simp only [Bool.and_eq_true, decide_eq_true_eq] at h
  exact h.1.2
theorem small_may {m : Ms} (ok : MsOk m) (h : mayM m = true) : Small m := by
  unfold mayM mayLen at h
  simp only [Bool.and_eq_true, decide_eq_true_eq] at h
  obtain ⟨-, l, -, a2, a3, a4⟩ := h
  refine ⟨l, fun x hx => key_le (all_mem a2 x hx), fun x hx => ?_, fun x hx => ?_⟩
  · have h1 := all_mem a3 x hx
    have ho := ok.recs x hx
    obtain ⟨o1, o2, o3, o4, o5, o6⟩ := ho
    have h2 := may_facts ⟨o2.1, o2.2.2.1, o2.2.2.2.2.1, o4.1, o5.1⟩ h1
    unfold gR
    have h3 := h2.1.2
    have h4 := h2.2.2.2.2.2.1
    omega
  · have h1 := all_mem a4 x hx
    unfold mayS at h1
    simp only [Bool.and_eq_true] at h1
    exact key_le h1.1
theorem sumOf_bound {α : Type} {g : α → Nat} {c : Nat} : ∀ (l : List α), (∀ x ∈ l, g x ≤ c) → sumOf g l ≤ c * l.length
  | [], _ => by simp [sumOf]
  | x :: l, h => by
    rw [sumOf_cons, List.length_cons, Nat.mul_add]
    have h1 := h x (by simp)
    have h2 := sumOf_bound l (fun y hy => h y (by simp [hy]))
    omega
def GrE (may out : Bool) (w : World) (e : Ending) (w' : World) : Prop := ∃ b, e = .returned (.bool b) ∧ (may = true → b = out) ∧ Kept w w'
set_option maxHeartbeats 12800000 in
theorem great_any (m : Ms) (ok : MsOk m) (w : World) (va vk vr vs vd : Value) (h : MsR w va vk vr vs vd m) : Calls Tryz.prog 8 #[msgV m va vk vr vs vd] w (GrE (mayM m) (greatM m) w) := by
  have HM := hid h
  have HS : Hid (mayM m = true → Small m) := hid (small_may ok)
  have HGr : Hid (greatM m = (decide (5000 < cntL m) || decide (9000 < cntL m + sumOf gK m.keys + sumOf gR m.recs + sumOf gS m.seen))) := hid rfl
  unfold cntL at HGr
  generalize hmay : mayM m = may at *
  generalize greatM m = out at *
  obtain ⟨na, nc, rfl, hn1, hn2⟩ := rg_is HM.out.n
  obtain ⟨ka, kc, rfl, hk1, hk2⟩ := rg_is HM.out.k
  obtain ⟨ra, rc, rfl, hr1, hr2⟩ := rg_is HM.out.r
  obtain ⟨sa, sc, rfl, hs1, hs2⟩ := rg_is HM.out.s
  obtain ⟨da, dc, rfl, hd1, hd2⟩ := rg_is HM.out.d
  have HOk := hid ok
  obtain ⟨k, f, t, id, tg, rn, fl, ns, ks, rs, ss, ds⟩ := m
  unfold msgV
  simp only at HM HGr hn1 hk1 hr1 hs1 hd1 h ⊢
  obtain ⟨n1, hn⟩ : ∃ n, ns.length = n := ⟨_, rfl⟩
  obtain ⟨n2, hk⟩ : ∃ n, ks.length = n := ⟨_, rfl⟩
  obtain ⟨n3, hr⟩ : ∃ n, rs.length = n := ⟨_, rfl⟩
  obtain ⟨n4, hs⟩ : ∃ n, ss.length = n := ⟨_, rfl⟩
  obtain ⟨n5, hd⟩ : ∃ n, ds.length = n := ⟨_, rfl⟩
  have HL : Hid (may = true → n1 ≤ 4096 ∧ n2 ≤ 4096 ∧ n3 ≤ 4096 ∧ n4 ≤ 4096 ∧ n5 ≤ 4096) := hid (fun e => by have h9 := (HS.out e).l; simp only at h9; omega)
  have HBk : Hid (may = true → sumOf gK ks ≤ 1024000) := hid (fun e => by have h9 := sumOf_bound ks (HS.out e).k; have h8 := (HS.out e).l.2.1; simp only at h8; have : 250 * ks.length ≤ 250 * 4096 := Nat.mul_le_mul_left _ h8; omega)
  have HBr : Hid (may = true → sumOf gR rs ≤ 5218304) := hid (fun e => by have h9 := sumOf_bound rs (HS.out e).r; have h8 := (HS.out e).l.2.2.1; simp only at h8; have : 1274 * rs.length ≤ 1274 * 4096 := Nat.mul_le_mul_left _ h8; omega)
  have HBs : Hid (may = true → sumOf gS ss ≤ 1024000) := hid (fun e => by have h9 := sumOf_bound ss (HS.out e).s; have h8 := (HS.out e).l.2.2.2.1; simp only at h8; have : 250 * ss.length ≤ 250 * 4096 := Nat.mul_le_mul_left _ h8; omega)
  have HGK : Hid (∀ i, i < n2 → ∃ y, ks[i]? = some y) := hid (fun i hi => ⟨ks[i]'(by omega), List.getElem?_eq_getElem _⟩)
  have HPK : Hid (0 < n2 → ∃ g o, ka = some ⟨g, o, none⟩) := hid (fun hp => by
    obtain ⟨g, o, c, e⟩ := rg_pos HM.out.k (by show 0 < ks.length; omega)
    injection e with e1
    exact ⟨g, o, e1⟩)
  have HTK : Hid (ks.take n2 = ks) := hid (by rw [← hk]; exact List.take_length)
  have HGR : Hid (∀ i, i < n3 → ∃ y, rs[i]? = some y) := hid (fun i hi => ⟨rs[i]'(by omega), List.getElem?_eq_getElem _⟩)
  have HPR : Hid (0 < n3 → ∃ g o, ra = some ⟨g, o, none⟩) := hid (fun hp => by
    obtain ⟨g, o, c, e⟩ := rg_pos HM.out.r (by show 0 < rs.length; omega)
    injection e with e1
    exact ⟨g, o, e1⟩)
  have HTR : Hid (rs.take n3 = rs) := hid (by rw [← hr]; exact List.take_length)
  have HGS : Hid (∀ i, i < n4 → ∃ y, ss[i]? = some y) := hid (fun i hi => ⟨ss[i]'(by omega), List.getElem?_eq_getElem _⟩)
  have HPS : Hid (0 < n4 → ∃ g o, sa = some ⟨g, o, none⟩) := hid (fun hp => by
    obtain ⟨g, o, c, e⟩ := rg_pos HM.out.s (by show 0 < ss.length; omega)
    injection e with e1
    exact ⟨g, o, e1⟩)
  have HTS : Hid (ss.take n4 = ss) := hid (by rw [← hs]; exact List.take_length)
  simp only [hn, hk, hr, hs, hd] at HM HGr h hn1 hk1 hr1 hs1 hd1 ⊢
  unfold maxLen at hn2 hk2 hr2 hs2 hd2
  have q1 : n1 ≤ 9223372036854775807 := by omega
  have q2 : n2 ≤ 9223372036854775807 := by omega
  have q3 : n3 ≤ 9223372036854775807 := by omega
  have q4 : n4 ≤ 9223372036854775807 := by omega
  have q5 : n5 ≤ 9223372036854775807 := by omega
  clear hn1 hk1 hr1 hs1 hd1 hn2 hk2 hr2 hs2 hd2 hn hk hr hs hd h ok hmay
  have k1 := kept_alloc (kept_refl w) (.cells #[.int .u8 k, .int .u8 f, .int .u8 t, .int .u32 id, .int .u8 tg, .int .u8 rn, .bool fl, .slice na n1 nc, .slice ka n2 kc, .slice ra n3 rc, .slice sa n4 sc, .slice da n5 dc] 29)
  have a1 := at_new w #[.int .u8 k, .int .u8 f, .int .u8 t, .int .u32 id, .int .u8 tg, .int .u8 rn, .bool fl, .slice na n1 nc, .slice ka n2 kc, .slice ra n3 rc, .slice sa n4 sc, .slice da n5 dc] 29
  obtain ⟨w1, hw1⟩ : ∃ u, w.alloc (.cells #[.int .u8 k, .int .u8 f, .int .u8 t, .int .u32 id, .int .u8 tg, .int .u8 rn, .bool fl, .slice na n1 nc, .slice ka n2 kc, .slice ra n3 rc, .slice sa n4 sc, .slice da n5 dc] 29) = u := ⟨_, rfl⟩
  obtain ⟨X, hX⟩ : ∃ u, w.heap.size = u := ⟨_, rfl⟩
  rw [hw1] at k1 a1
  rw [hX] at a1
  have HX := hid a1
  have HW := hid k1
  obtain ⟨⟨c0, c1, c2, c3, c4, c5, c6, c7, c8, c9, ca, cb⟩, -⟩ := cells12 HX.out
  clear a1 k1
  obtain ⟨y1, e1⟩ : ∃ z, IntKind.i64.wrap ((n1 : Int) + (n2 : Int)) = z := ⟨_, rfl⟩
  obtain ⟨y2, e2⟩ : ∃ z, IntKind.i64.wrap (y1 + (n3 : Int)) = z := ⟨_, rfl⟩
  obtain ⟨y3, e3⟩ : ∃ z, IntKind.i64.wrap (y2 + (n4 : Int)) = z := ⟨_, rfl⟩
  obtain ⟨y4, e4⟩ : ∃ z, IntKind.i64.wrap (y3 + (n5 : Int)) = z := ⟨_, rfl⟩
  have HY : Hid (may = true → y4 = ((n1 + n2 + n3 + n4 + n5 : Nat) : Int)) := hid (fun e => by
    have h9 := HL.out e
    rw [wrapI_id (by omega)] at e1
    subst e1
    rw [wrapI_id (by omega)] at e2
    subst e2
    rw [wrapI_id (by omega)] at e3
    subst e3
    rw [wrapI_id (by omega)] at e4
    omega)
  have b4 : -9223372036854775808 ≤ y4 ∧ y4 ≤ 9223372036854775807 := by rw [← e4]; exact wrapI _
  by_cases hy : 5000 < y4
  · have HO : Hid (may = true → true = out) := hid (fun e => by have h9 := HY.out e; rw [HGr.out]; simp; left; omega)
    go_enter Tryz.func8, Tryz.ntmps8
    go_wp2_with fail
    go_ret
    exact ⟨true, rfl, HO.out, HW.out⟩
  · have HC : Hid (may = true → n1 + n2 + n3 + n4 + n5 ≤ 5000) := hid (fun e => by have h9 := HY.out e; omega)
    go_enter Tryz.func8, Tryz.ntmps8
    go_wp2_with fail
    clear hw1 hX c0 c1 c2 c3 c4 c5 c6 c7 c8 c9 ca cb e1 e2 e3 e4 hy q1 q5
    have HZ : Hid (may = true → y4 = ((n1 + n2 + n3 + n4 + n5 + sumOf gK (ks.take 0) : Nat) : Int) ∧ y4 ≤ 9000) := hid (fun e => by have h9 := HY.out e; have h8 := HC.out e; have h7 : sumOf gK (ks.take 0) = 0 := rfl; omega)
    have HZb : Hid (-9223372036854775808 ≤ y4 ∧ y4 ≤ 9223372036854775807) := hid b4
    clear b4
    go_loopw [3, 31] (fun zv iv wr => ∃ (j : Nat) (z : Int), j ≤ n2 ∧ zv = .int .i64 z ∧ iv = .int .i64 (j : Int) ∧ Hid (may = true → z = ((n1 + n2 + n3 + n4 + n5 + (sumOf gK (ks.take j)) : Nat) : Int) ∧ z ≤ 9000) ∧ Hid (-9223372036854775808 ≤ z ∧ z ≤ 9223372036854775807) ∧ Hid (At wr X #[.int .u8 k, .int .u8 f, .int .u8 t, .int .u32 id, .int .u8 tg, .int .u8 rn, .bool fl, .slice na n1 nc, .slice ka n2 kc, .slice ra n3 rc, .slice sa n4 sc, .slice da n5 dc] 29) ∧ Hid (Kept w wr)) (fun _ iv _ => n2 - (intOf iv).toNat)
    case atStart => exact ⟨0, y4, Nat.zero_le _, rfl, rfl, HZ, HZb, HX, HW⟩
    case round =>
      obtain ⟨j, z0, hj, rfl, rfl, HZn, HZbn, HXn, HWn⟩ := hrel
      clear HZ HZb HX HW
      have HZ := HZn
      have HZb := HZbn
      have HX := HXn
      have HW := HWn
      clear HZn HZbn HXn HWn
      obtain ⟨⟨c0, c1, c2, c3, c4, c5, c6, c7, c8, c9, ca, cb⟩, -⟩ := cells12 HX.out
      by_cases hlt : j < n2
      · have hltz : (j : Int) < (n2 : Int) := by omega
        obtain ⟨y, hy⟩ := HGK.out j hlt
        obtain ⟨g, o, rfl⟩ := HPK.out (by omega)
        have p0 := rg_K (rg_kept encK_ok HM.out.k HW.out) hy
        have HNx := hid (sumOf_next (g := gK) hy)
        have HLe := hid (sumOf_le gK ks (j + 1))
        clear hy
        obtain ⟨x, e2⟩ : ∃ v, IntKind.i64.wrap (z0 + (y.size : Int)) = v := ⟨_, rfl⟩
        have HZ2 : Hid (may = true → x = ((n1 + n2 + n3 + n4 + n5 + (sumOf gK (ks.take (j + 1))) : Nat) : Int)) := hid (fun e => by
          have h9 := (HZ.out e).1
          have h8 := HNx.out
          have h7 := HL.out e
          have h6 := HBk.out e
          have h5 := HBr.out e
          have h4 := HBs.out e
          have h3 := HLe.out
          have h2 : gK y = y.size := rfl
          rw [wrapI_id (by omega)] at e2
          omega)
        have HXb : Hid (-9223372036854775808 ≤ x ∧ x ≤ 9223372036854775807) := hid (by rw [← e2]; exact wrapI _)
        by_cases hx : 9000 < x
        · have HO : Hid (may = true → true = out) := hid (fun e => by
            have h9 := HZ2.out e
            have h3 := HLe.out
            rw [HGr.out]
            simp
            right
            omega)
          go_wp2_with fail
          go_ret
          exact ⟨true, rfl, HO.out, HW.out⟩
        · have HZ3 : Hid (may = true → x = ((n1 + n2 + n3 + n4 + n5 + (sumOf gK (ks.take (j + 1))) : Nat) : Int) ∧ x ≤ 9000) := hid (fun e => ⟨HZ2.out e, by omega⟩)
          go_wp2_with fail
          go_roundw
          case rel => exact ⟨j + 1, x, by omega, rfl, by go_num, HZ3, HXb, HX, HW⟩
          case measure => simp [intOf]; omega
      · have hltz : ¬ (j : Int) < (n2 : Int) := by omega
        have hje : n2 = j := by omega
        subst hje
        go_wp2_with fail
        clear c0 c1 c2 c3 c4 c5 c6 c7 c8 c9 ca cb hltz
        have HZ1 : Hid (may = true → z0 = ((n1 + n2 + n3 + n4 + n5 + (sumOf gK ks + sumOf gR (rs.take 0)) : Nat) : Int) ∧ z0 ≤ 9000) := hid (fun e => by have h9 := HZ.out e; rw [HTK.out] at h9; have h7 : sumOf gR (rs.take 0) = 0 := rfl; omega)
        clear HZ
        have HZ := HZ1
        clear HZ1
        go_loopw [3, 48] (fun zv iv wr => ∃ (j : Nat) (z : Int), j ≤ n3 ∧ zv = .int .i64 z ∧ iv = .int .i64 (j : Int) ∧ Hid (may = true → z = ((n1 + n2 + n3 + n4 + n5 + (sumOf gK ks + sumOf gR (rs.take j)) : Nat) : Int) ∧ z ≤ 9000) ∧ Hid (-9223372036854775808 ≤ z ∧ z ≤ 9223372036854775807) ∧ Hid (At wr X #[.int .u8 k, .int .u8 f, .int .u8 t, .int .u32 id, .int .u8 tg, .int .u8 rn, .bool fl, .slice na n1 nc, .slice ka n2 kc, .slice ra n3 rc, .slice sa n4 sc, .slice da n5 dc] 29) ∧ Hid (Kept w wr)) (fun _ iv _ => n3 - (intOf iv).toNat)
        case atStart => exact ⟨0, z0, Nat.zero_le _, rfl, rfl, HZ, HZb, HX, HW⟩
        case round =>
          obtain ⟨j, z1, hj, rfl, rfl, HZn, HZbn, HXn, HWn⟩ := hrel
          clear HZ HZb HX HW
          have HZ := HZn
          have HZb := HZbn
          have HX := HXn
          have HW := HWn
          clear HZn HZbn HXn HWn
          obtain ⟨⟨c0, c1, c2, c3, c4, c5, c6, c7, c8, c9, ca, cb⟩, -⟩ := cells12 HX.out
          by_cases hlt : j < n3
          · have hltz : (j : Int) < (n3 : Int) := by omega
            obtain ⟨y, hy⟩ := HGR.out j hlt
            obtain ⟨g, o, rfl⟩ := HPR.out (by omega)
            obtain ⟨p0, p1, p2, p3, p4, p5, p6, p7⟩ := rg_R (rg_kept encR_ok HM.out.r HW.out) hy
            have HNx := hid (sumOf_next (g := gR) hy)
            have HLe := hid (sumOf_le gR rs (j + 1))
            clear hy
            obtain ⟨s1, e1⟩ : ∃ v, IntKind.i64.wrap ((y.key.size : Int) + (y.body.size : Int)) = v := ⟨_, rfl⟩
            obtain ⟨x, e2⟩ : ∃ v, IntKind.i64.wrap (z1 + s1) = v := ⟨_, rfl⟩
            have HZ2 : Hid (may = true → x = ((n1 + n2 + n3 + n4 + n5 + (sumOf gK ks + sumOf gR (rs.take (j + 1))) : Nat) : Int)) := hid (fun e => by
              have h9 := (HZ.out e).1
              have h8 := HNx.out
              have h7 := HL.out e
              have h6 := HBk.out e
              have h5 := HBr.out e
              have h4 := HBs.out e
              have h3 := HLe.out
              have h2 : gR y = y.key.size + y.body.size := rfl
              rw [wrapI_id (by omega)] at e1
              subst e1
              rw [wrapI_id (by omega)] at e2
              omega)
            have HXb : Hid (-9223372036854775808 ≤ x ∧ x ≤ 9223372036854775807) := hid (by rw [← e2]; exact wrapI _)
            by_cases hx : 9000 < x
            · have HO : Hid (may = true → true = out) := hid (fun e => by
                have h9 := HZ2.out e
                have h3 := HLe.out
                rw [HGr.out]
                simp
                right
                omega)
              have HWd := hid (kept_drewN HW.out 1)
              go_wp2_with fail
              go_quiet (fail)
              go_wp2_with fail
              go_ret
              exact ⟨true, rfl, HO.out, HW.out⟩
            · have HZ3 : Hid (may = true → x = ((n1 + n2 + n3 + n4 + n5 + (sumOf gK ks + sumOf gR (rs.take (j + 1))) : Nat) : Int) ∧ x ≤ 9000) := hid (fun e => ⟨HZ2.out e, by omega⟩)
              go_wp2_with fail
              go_quiet (fail)
              go_wp2_with fail
              go_roundw
              case rel => exact ⟨j + 1, x, by omega, rfl, by go_num, HZ3, HXb, hid (at_drewN HX.out _), hid (kept_drewN HW.out _)⟩
              case measure => simp [intOf]; omega
          · have hltz : ¬ (j : Int) < (n3 : Int) := by omega
            have hje : n3 = j := by omega
            subst hje
            go_wp2_with fail
            clear c0 c1 c2 c3 c4 c5 c6 c7 c8 c9 ca cb hltz
            have HZ1 : Hid (may = true → z1 = ((n1 + n2 + n3 + n4 + n5 + (sumOf gK ks + sumOf gR rs + sumOf gS (ss.take 0)) : Nat) : Int) ∧ z1 ≤ 9000) := hid (fun e => by have h9 := HZ.out e; rw [HTR.out] at h9; have h7 : sumOf gS (ss.take 0) = 0 := rfl; omega)
            clear HZ
            have HZ := HZ1
            clear HZ1
            go_loopw [3, 74] (fun zv iv wr => ∃ (j : Nat) (z : Int), j ≤ n4 ∧ zv = .int .i64 z ∧ iv = .int .i64 (j : Int) ∧ Hid (may = true → z = ((n1 + n2 + n3 + n4 + n5 + (sumOf gK ks + sumOf gR rs + sumOf gS (ss.take j)) : Nat) : Int) ∧ z ≤ 9000) ∧ Hid (-9223372036854775808 ≤ z ∧ z ≤ 9223372036854775807) ∧ Hid (At wr X #[.int .u8 k, .int .u8 f, .int .u8 t, .int .u32 id, .int .u8 tg, .int .u8 rn, .bool fl, .slice na n1 nc, .slice ka n2 kc, .slice ra n3 rc, .slice sa n4 sc, .slice da n5 dc] 29) ∧ Hid (Kept w wr)) (fun _ iv _ => n4 - (intOf iv).toNat)
            case atStart => exact ⟨0, z1, Nat.zero_le _, rfl, rfl, HZ, HZb, HX, HW⟩
            case round =>
              obtain ⟨j, z2, hj, rfl, rfl, HZn, HZbn, HXn, HWn⟩ := hrel
              clear HZ HZb HX HW
              have HZ := HZn
              have HZb := HZbn
              have HX := HXn
              have HW := HWn
              clear HZn HZbn HXn HWn
              obtain ⟨⟨c0, c1, c2, c3, c4, c5, c6, c7, c8, c9, ca, cb⟩, -⟩ := cells12 HX.out
              by_cases hlt : j < n4
              · have hltz : (j : Int) < (n4 : Int) := by omega
                obtain ⟨y, hy⟩ := HGS.out j hlt
                obtain ⟨g, o, rfl⟩ := HPS.out (by omega)
                obtain ⟨p0, p1, p2, p3, p4⟩ := rg_S (rg_kept encS_ok HM.out.s HW.out) hy
                have HNx := hid (sumOf_next (g := gS) hy)
                have HLe := hid (sumOf_le gS ss (j + 1))
                clear hy
                obtain ⟨x, e2⟩ : ∃ v, IntKind.i64.wrap (z2 + (y.key.size : Int)) = v := ⟨_, rfl⟩
                have HZ2 : Hid (may = true → x = ((n1 + n2 + n3 + n4 + n5 + (sumOf gK ks + sumOf gR rs + sumOf gS (ss.take (j + 1))) : Nat) : Int)) := hid (fun e => by
                  have h9 := (HZ.out e).1
                  have h8 := HNx.out
                  have h7 := HL.out e
                  have h6 := HBk.out e
                  have h5 := HBr.out e
                  have h4 := HBs.out e
                  have h3 := HLe.out
                  have h2 : gS y = y.key.size := rfl
                  rw [wrapI_id (by omega)] at e2
                  omega)
                have HXb : Hid (-9223372036854775808 ≤ x ∧ x ≤ 9223372036854775807) := hid (by rw [← e2]; exact wrapI _)
                by_cases hx : 9000 < x
                · have HO : Hid (may = true → true = out) := hid (fun e => by
                    have h9 := HZ2.out e
                    have h3 := HLe.out
                    rw [HGr.out]
                    simp
                    right
                    omega)
                  go_wp2_with fail
                  go_ret
                  exact ⟨true, rfl, HO.out, HW.out⟩
                · have HZ3 : Hid (may = true → x = ((n1 + n2 + n3 + n4 + n5 + (sumOf gK ks + sumOf gR rs + sumOf gS (ss.take (j + 1))) : Nat) : Int) ∧ x ≤ 9000) := hid (fun e => ⟨HZ2.out e, by omega⟩)
                  go_wp2_with fail
                  go_roundw
                  case rel => exact ⟨j + 1, x, by omega, rfl, by go_num, HZ3, HXb, HX, HW⟩
                  case measure => simp [intOf]; omega
              · have hltz : ¬ (j : Int) < (n4 : Int) := by omega
                have hje : n4 = j := by omega
                subst hje
                have HO : Hid (may = true → false = out) := hid (fun e => by
                  have h9 := HZ.out e
                  have h8 := HC.out e
                  rw [HTS.out] at h9
                  rw [HGr.out]
                  simp
                  omega)
                go_wp2_with fail
                go_ret
                exact ⟨false, rfl, HO.out, HW.out⟩
end Go.Proofs.YtioeidhblbfgmaaGreat


namespace Go.Proofs.YtioeidhblbfgmaaGreat
open Go.ChangeShapes Go.WideShapes Go.ChangeAt Go.RowKit
set_option linter.unusedVariables false
set_option linter.unusedSimpArgs false
set_option maxRecDepth 100000

/- A message's rows, of new memory from B on. -/
structure MsO (w : World) (B : Nat) (vn vk vr vs vd : Value) (m : Ms) : Prop where
  n : Og encN 3 79 w B vn m.news
  k : Og encK 1 9 w B vk m.keys
  r : Og encR 8 57 w B vr m.recs
  s : Og encS 5 59 w B vs m.seen
  d : Og encG 1 53 w B vd m.digs
theorem mso_r {w : World} {B : Nat} {vn vk vr vs vd : Value} {m : Ms} (h : MsO w B vn vk vr vs vd m) : MsR w vn vk vr vs vd m := ⟨rg_own encN_ok h.n, rg_own encK_ok h.k, rg_own encR_ok h.r, rg_own encS_ok h.s, rg_own encG_ok h.d⟩
theorem mso_kept {w w' : World} {B : Nat} {vn vk vr vs vd : Value} {m : Ms} (h : MsO w B vn vk vr vs vd m) (k : Kept w w') : MsO w' B vn vk vr vs vd m := ⟨og_stays h.n k, og_stays h.k k, og_stays h.r k, og_stays h.s k, og_stays h.d k⟩
/- What is another one's own may turn. -/
theorem mso_tn {w w' : World} {B : Nat} {vn vk vr vs vd : Value} {m : Ms} {F : Nat → Prop} (h : MsO w B vn vk vr vs vd m) (t : Tn F w w') (hF : ∀ b, F b → b < B) : MsO w' B vn vk vr vs vd m :=
  ⟨og_tn h.n t (fun b hb e => by have h1 := og_lt h.n hb; have h2 := hF b e; omega), og_tn h.k t (fun b hb e => by have h1 := og_lt h.k hb; have h2 := hF b e; omega), og_tn h.r t (fun b hb e => by have h1 := og_lt h.r hb; have h2 := hF b e; omega), og_tn h.s t (fun b hb e => by have h1 := og_lt h.s hb; have h2 := hF b e; omega), og_tn h.d t (fun b hb e => by have h1 := og_lt h.d hb; have h2 := hF b e; omega)⟩
theorem mso_is {w : World} {B : Nat} {vn vk vr vs vd : Value} {m : Ms} (h : MsO w B vn vk vr vs vd m) : ∃ a1 n1 c1 a2 n2 c2 a3 n3 c3 a4 n4 c4 a5 n5 c5, vn = .slice a1 n1 c1 ∧ vk = .slice a2 n2 c2 ∧ vr = .slice a3 n3 c3 ∧ vs = .slice a4 n4 c4 ∧ vd = .slice a5 n5 c5 := by
  obtain ⟨a1, c1, e1, -, -⟩ := og_is encN_ok h.n
  obtain ⟨a2, c2, e2, -, -⟩ := og_is encK_ok h.k
  obtain ⟨a3, c3, e3, -, -⟩ := og_is encR_ok h.r
  obtain ⟨a4, c4, e4, -, -⟩ := og_is encS_ok h.s
  obtain ⟨a5, c5, e5, -, -⟩ := og_is encG_ok h.d
  exact ⟨a1, _, c1, a2, _, c2, a3, _, c3, a4, _, c4, a5, _, c5, e1, e2, e3, e4, e5⟩
structure MsIs (T : Shape Unit) : Prop where
  obj : ObjIs T
  new : ∀ (w : World), Calls Tryz.prog 10 #[] w fun e w' => ∃ X F, e = .returned (.pointer (some ⟨X, 0, none⟩)) ∧ T w' X () F ∧ Kept w w' ∧ ∀ b, F b → w.heap.size ≤ b
  pack : ∀ (X : Nat) (F : Nat → Prop) (m : Ms) (vn vk vr vs vd : Value) (w : World), T w X () F → MsOk m → MsR w vn vk vr vs vd m → Calls Tryz.prog 11 #[.pointer (some ⟨X, 0, none⟩), msgV m vn vk vr vs vd] w fun e w' => ∃ F', e = .returned (.tuple #[.string (packM m).1, .int .i64 ((packM m).2 : Int)]) ∧ T w' X () F' ∧ Sd F w F' w'
  unpack : ∀ (X : Nat) (F : Nat → Prop) (s : ByteArray) (w : World), T w X () F → s.size ≤ 2000000 → Calls Tryz.prog 13 #[.pointer (some ⟨X, 0, none⟩), .string s] w fun e w' => ∃ F' vn vk vr vs vd, e = .returned (.tuple #[msgV (unM s).1 vn vk vr vs vd, .int .i64 ((unM s).2 : Int)]) ∧ MsO w' w.heap.size vn vk vr vs vd (unM s).1 ∧ T w' X () F' ∧ Sd F w F' w'
  pack_nil : ∀ (m : Ms) (vn vk vr vs vd : Value) (w : World), MsR w vn vk vr vs vd m → Calls Tryz.prog 11 #[.pointer none, msgV m vn vk vr vs vd] w fun e w' => ∃ s, e = .returned (.tuple #[.string s, .int .i64 1]) ∧ Kept w w'
  unpack_nil : ∀ (s : ByteArray) (w : World), Calls Tryz.prog 13 #[.pointer none, .string s] w fun e w' => ∃ m vn vk vr vs vd, e = .returned (.tuple #[msgV m vn vk vr vs vd, .int .i64 1]) ∧ MsO w' w.heap.size vn vk vr vs vd m ∧ Kept w w'
section
variable {T : Shape Unit} {W w w' : World} {X : Nat} {F F' : Nat → Prop}
theorem mk_new (hT : MsIs T) (kw : Kept W w) : Calls Tryz.prog 10 #[] w fun e w' => ∃ X F, e = .returned (.pointer (some ⟨X, 0, none⟩)) ∧ TT T W X () F w' ∧ Kept w w' ∧ ∀ b, F b → w.heap.size ≤ b :=
  (hT.new w).mono (by
    rintro e w' ⟨X, F, rfl, ht, kk, hf⟩
    exact ⟨X, F, rfl, ⟨ht, kept_trans kw kk, fun b hb => Nat.le_trans kw.2 (hf b hb)⟩, kk, hf⟩)
theorem mk_pack (hT : MsIs T) (h : TT T W X () F w) {m : Ms} (ok : MsOk m) {vn vk vr vs vd : Value} (hm : MsR w vn vk vr vs vd m) : Calls Tryz.prog 11 #[.pointer (some ⟨X, 0, none⟩), msgV m vn vk vr vs vd] w fun e w' => ∃ F', e = .returned (.tuple #[.string (packM m).1, .int .i64 ((packM m).2 : Int)]) ∧ TT T W X () F' w' ∧ Sd F w F' w' :=
  (hT.pack X F m vn vk vr vs vd w h.t ok hm).mono (by
    rintro e w' ⟨F', rfl, ht, d⟩
    exact ⟨F', rfl, tt_sd h ht d, d⟩)
theorem mk_unpack (hT : MsIs T) (h : TT T W X () F w) {s : ByteArray} (hs : s.size ≤ 2000000) : Calls Tryz.prog 13 #[.pointer (some ⟨X, 0, none⟩), .string s] w fun e w' => ∃ F' vn vk vr vs vd, e = .returned (.tuple #[msgV (unM s).1 vn vk vr vs vd, .int .i64 ((unM s).2 : Int)]) ∧ MsO w' w.heap.size vn vk vr vs vd (unM s).1 ∧ TT T W X () F' w' ∧ Sd F w F' w' :=
  (hT.unpack X F s w h.t hs).mono (by
    rintro e w' ⟨F', vn, vk, vr, vs, vd, rfl, hm, ht, d⟩
    exact ⟨F', vn, vk, vr, vs, vd, rfl, hm, tt_sd h ht d, d⟩)
end
/- The chapter's example. -/
def exM : Ms := ⟨1, 2, 3, 0, 0, 0, false, [], [], [], [], []⟩
def exS : ByteArray := ⟨#[1, 1, 2, 3, 0, 0, 0, 9, 0, 0, 0, 0, 0, 0, 0, 0, 0, 200, 211, 20, 239]⟩
theorem ex_ok : MsOk exM := by
  refine ⟨?_, ?_, ?_, ?_, ?_, ?_, ?_, ?_, ?_, ?_, ?_⟩
  all_goals first | (constructor <;> decide) | (intro x hx; cases hx)
theorem ex_may : mayM exM = true := by decide +kernel
theorem ex_body : bodyM exM = ⟨#[0, 0, 0, 0, 0, 0, 0, 0, 0]⟩ := by decide +kernel
theorem ex_more : Frm.more 0 [1, 1, 2, 3, 0, 0, 0, 9, 0, 0, 0, 0, 0, 0, 0, 0, 0] = 3369276655 := by decide +kernel
theorem ex_pack : packM exM = (exS, 0) := by
  rw [packM_ok ex_ok ex_may (by rw [ex_body]; decide), ex_body]
  have e : Frm.front 1 2 3 [0, 0, 0, 0, 0, 0, 0, 0, 0] = [1, 1, 2, 3, 0, 0, 0, 9, 0, 0, 0, 0, 0, 0, 0, 0, 0] := by decide +kernel
  have e2 : Frm.lay 1 2 3 [0, 0, 0, 0, 0, 0, 0, 0, 0] = [1, 1, 2, 3, 0, 0, 0, 9, 0, 0, 0, 0, 0, 0, 0, 0, 0, 200, 211, 20, 239] := by
    rw [Frm.lay, e, ex_more]
    decide +kernel
  have e3 : Frm.lay (byteI exM.kind) (byteI exM.frm) (byteI exM.dst) (⟨#[0, 0, 0, 0, 0, 0, 0, 0, 0]⟩ : ByteArray).data.toList = Frm.lay 1 2 3 [0, 0, 0, 0, 0, 0, 0, 0, 0] := rfl
  rw [e3, e2]
  rfl
theorem ex_un : unM exS = (exM, 0) := by
  have h := (un_pack ex_ok ex_may (by rw [ex_body]; decide)).2
  rw [ex_pack] at h
  exact h
theorem slice_ex (w : World) : (Instr.slice 9 (.string exS) (some (.int .i64 8)) (some (.int .i64 17)) none).run Tryz.prog w = .ok (.string ⟨#[0, 0, 0, 0, 0, 0, 0, 0, 0]⟩) w := by
  have h9 := run_slice_string (P := Tryz.prog) w 9 exS .i64 .i64 8 17 Tryz.underlying9 (by decide) (by decide) (by decide)
  rw [h9]
  have e : exS.extract 8 17 = ⟨#[0, 0, 0, 0, 0, 0, 0, 0, 0]⟩ := by decide +kernel
  exact congrArg (fun z => Result.ok (Value.string z) w) e
set_option maxHeartbeats 3200000 in
theorem fixed_any {T : Shape Unit} (hT : MsIs T) (w : World) : Calls Tryz.prog 9 #[] w fun e w' => e = .returned (.bool true) ∧ Kept w w' := by
  have hsl := slice_ex
  have hl : exS.size = 21 := by decide
  have HP : Hid (packM exM = (exS, 0)) := hid ex_pack
  have HU : Hid (unM exS = (exM, 0)) := hid ex_un
  generalize exS = S at *
  have hl2 : (S.size : Int) = 21 := by omega
  go_enter Tryz.func9, Tryz.ntmps9
  go_wp2_with fail
  refine (mk_new hT (kept_refl w)).mono ?_
  rintro e w1 ⟨X, F, rfl, t1, k1, f1⟩
  have HT1 := hid t1
  clear t1 k1 f1
  go_wp2_with fail
  refine (mk_pack hT HT1.out ex_ok (msr_zero w1 |> fun h => (⟨h.n, h.k, h.r, h.s, h.d⟩ : MsR w1 _ _ _ _ _ exM))).mono ?_
  rintro e w2 ⟨F2, rfl, t2, d2⟩
  rw [HP.out]
  have HT2 := hid t2
  clear t2 d2 HT1
  go_wp2_with fail
  refine (mk_unpack hT HT2.out (by omega)).mono ?_
  rintro e w3 ⟨F3, vn, vk, vr, vs, vd, rfl, hm, t3, d3⟩
  obtain ⟨a1, n1, c1, a2, n2, c2, a3, n3, c3, a4, n4, c4, a5, n5, c5, rfl, rfl, rfl, rfl, rfl⟩ := mso_is hm
  rw [HU.out]
  have HK := hid (kept_alloc t3.k (.cells #[.int .u8 1, .int .u8 2, .int .u8 3, .int .u32 0, .int .u8 0, .int .u8 0, .bool false, .slice a1 n1 c1, .slice a2 n2 c2, .slice a3 n3 c3, .slice a4 n4 c4, .slice a5 n5 c5] 29))
  obtain ⟨⟨g0, g1, g2, g3, g4, g5, g6, g7, g8, g9, ga, gb⟩, -⟩ := cells12 (at_new w3 #[.int .u8 1, .int .u8 2, .int .u8 3, .int .u32 0, .int .u8 0, .int .u8 0, .bool false, .slice a1 n1 c1, .slice a2 n2 c2, .slice a3 n3 c3, .slice a4 n4 c4, .slice a5 n5 c5] 29)
  have hz := zeroMv
  unfold msgV exM
  clear hm t3 d3 HT2 HP HU
  go_wp2_with fail
  go_ret
  exact ⟨rfl, HK.out⟩
end Go.Proofs.YtioeidhblbfgmaaGreat
