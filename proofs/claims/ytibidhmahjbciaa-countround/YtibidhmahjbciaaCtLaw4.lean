/- CountApart over whatever answers as the counts must: for any row of calls and any turn. -/
import Derived.Test.YtibidhmahjbciaaCtApart
import Derived.IntWalk
namespace Go.Proofs.Ytibidhmahjbciaa
open Go.ChangeShapes Go.WideShapes Go.ChangeAt Go.RowKit
set_option linter.unusedVariables false
set_option linter.unusedSimpArgs false
set_option maxRecDepth 100000

/- Two counts side by side. -/
structure Ap (T : Shape (List Ct)) (W : World) (X Y : Nat) (LX LY : List Ct) (F G : Nat → Prop) (w : World) : Prop where
  x : TT T W X LX F w
  y : TT T W Y LY G w
  d : ∀ b, F b → ¬ G b
  sx : LsOk LX
  sy : LsOk LY
section
variable {T : Shape (List Ct)} {W w w' : World} {X Y : Nat} {LX LY L' : List Ct} {F G F' : Nat → Prop}
theorem ap_kept (hT : CtIs T) (h : Ap T W X Y LX LY F G w) (k : Kept w w') : Ap T W X Y LX LY F G w' := ⟨tt_kept hT.obj h.x k, tt_kept hT.obj h.y k, h.d, h.sx, h.sy⟩
theorem ap_x (hT : CtIs T) (h : Ap T W X Y LX LY F G w) (t : TT T W X L' F' w') (d : Sd F w F' w') (s : LsOk L') : Ap T W X Y L' LY F' G w' := by
  refine ⟨t, ⟨hT.obj.stay h.y.t (fun b hb => d.1.2.2.2 b (hT.obj.lt h.y.t hb) (fun hf => h.d b hf hb)), t.k, h.y.f⟩, fun b hb hg => ?_, s, h.sy⟩
  rcases d.2 b hb with hf | hn
  · exact h.d b hf hg
  · have := hT.obj.lt h.y.t hg
    omega
theorem ap_swap (h : Ap T W X Y LX LY F G w) : Ap T W Y X LY LX G F w := ⟨h.y, h.x, fun b hg hf => h.d b hf hg, h.sy, h.sx⟩
end
def tY : ByteArray := ⟨#[121]⟩
def names3 : List ByteArray := [tX, tY, tA]
theorem qok_xya : ∀ x ∈ names3, QOk x := fun x hx => by
  unfold names3 at hx
  simp only [List.mem_cons, List.not_mem_nil, or_false] at hx
  rcases hx with rfl | rfl | rfl <;> exact qok_one _
theorem may_xya : MayC names3 := may_of _ (by decide) (by decide) (by decide) (by decide)
theorem eq_stats (a b : Ct) (e : a = b) (w : World) : (Op.equalIn 10000 46 (.agg #[.string a.name, .int .u64 a.n]) (.agg #[.string b.name, .int .u64 b.n])).run Try.prog w = .ok true w := by
  subst e
  go_simp
theorem zeroC (w : World) : (zeroValue 46).run Try.prog w = .ok (.agg #[.string ⟨#[]⟩, .int .u64 0]) w := by kernel_rfl
set_option maxHeartbeats 12800000 in
theorem law4_any {T : Shape (List Ct)} (hT : CtIs T) (l : List Opn) (hl : ∀ x ∈ l, inU64 x.n ∧ TxOk x.name) (tu : Int) (htu : 0 ≤ tu ∧ tu < 256) (v : Value) (w : World) (h : Rg encO 3 w v l) : Calls Try.prog 6 #[v, .int .u8 tu] w fun e w' => e = .returned (.bool true) ∧ Kept w w' := by
  have HT := hid hT
  have HF := hid (fun u : World => fixed_any hT u)
  have HR := hid h
  obtain ⟨a, cap, rfl, hc1, hc2, -, -⟩ := h
  have HU := hid (fun x hx => (hl x hx).1)
  have HG : Hid (∀ k, k < l.length → ∃ y, l[k]? = some y ∧ inU64 y.n ∧ TxOk y.name) := hid (fun k hk => ⟨l[k], List.getElem?_eq_getElem hk, hl _ (List.getElem_mem hk)⟩)
  have HP : Hid (0 < l.length → ∃ g o, a = some ⟨g, o, none⟩) := hid (fun hp => by
    obtain ⟨g, o, c, e⟩ := rg_pos HR.out hp
    injection e with e1
    exact ⟨g, o, e1⟩)
  have HTk : Hid (l.take l.length = l) := hid List.take_length
  have HWp : Hid (∀ n, n < l.length → (walkL l n l.length).Perm l) := hid (fun n hn => walk_perm hn)
  have HRt : Hid (∀ n i, n < l.length → i < l.length → rot n l.length i < l.length ∧ Int.tmod ((n : Int) + (l.length : Int) - (i : Int)) (l.length : Int) = (rot n l.length i : Int) ∧ ∀ y, l[rot n l.length i]? = some y → walkL l n (i + 1) = walkL l n i ++ [y]) := hid (fun n i hn hi => ⟨rot_lt hn hi, rot_rem hn hi, fun y hy => walk_next hy⟩)
  have hmx : l.length ≤ maxLen := by omega
  unfold maxLen at hmx
  have hz := zeroO
  have hz2 := zeroC
  have ka := kept_alloc (kept_refl w) (.cells #[.string ⟨#[120]⟩, .string ⟨#[121]⟩, .string ⟨#[97]⟩] 9)
  have hRN : Rg encK 1 (w.alloc (.cells #[.string ⟨#[120]⟩, .string ⟨#[121]⟩, .string ⟨#[97]⟩] 9)) (.slice (some ⟨w.heap.size, 0, none⟩) 3 3) names3 := rg_own encK_ok (og_built encK_ok 9 w w.heap.size (Nat.le_refl _) names3 (by decide))
  have HRN := hid hRN
  have hN := ct_new (T := T) (W := w) hT ka may_xya qok_xya hRN
  clear hT hl hc1 hc2 ka hRN
  generalize hm : l.length = m at *
  clear hm
  go_enter Try.func6, Try.ntmps6
  go_wp2_with fail
  generalize w.alloc (.cells #[.string ⟨#[120]⟩, .string ⟨#[121]⟩, .string ⟨#[97]⟩] 9) = w0 at *
  refine hN.mono ?_
  rintro e w1 ⟨X, F, rfl, t1, k1, f1⟩
  have HT1 : Hid (TT T w X (newC names3) F w1) := hid t1
  have hN2 := ct_new (T := T) (W := w) HT.out t1.k may_xya qok_xya (rg_kept encK_ok HRN.out k1)
  clear hN t1 k1 f1
  go_wp2_with fail
  refine hN2.mono ?_
  rintro e w2 ⟨Y, G, rfl, t2, k2, f2⟩
  have HD2 : Hid (Ap T w X Y (newC names3) (newC names3) F G w2) := hid ⟨tt_kept HT.out.obj HT1.out k2, t2, fun b hf hg => by have := HT.out.obj.lt HT1.out.t hf; have := f2 b hg; omega, new_lsok may_xya, new_lsok may_xya⟩
  have hF := HF.out w2
  clear hN2 t2 k2 f2 HT1 HRN
  go_wp2_with fail
  refine hF.mono ?_
  rintro e w3 ⟨rfl, k3⟩
  have HD3 := hid (ap_kept HT.out HD2.out k3)
  clear hF k3 HD2
  by_cases hbig : 200 < m
  · have b1 : decide ((200 : Int) < (m : Int)) = true := by simp; omega
    have hF3 := HF.out w3
    go_wp2_with fail
    refine hF3.mono ?_
    rintro e w4 ⟨rfl, k4⟩
    have HK := hid (kept_trans HD3.out.x.k k4)
    clear hF3 k4
    go_wp2_with fail
    go_ret
    exact ⟨rfl, HK.out⟩
  have b1 : decide ((200 : Int) < (m : Int)) = false := by simp; omega
  by_cases hz0 : m = 0
  · have d0 : ((m : Int) == 0) = true := by subst hz0; rfl
    have hF3 := HF.out w3
    go_wp2_with fail
    refine hF3.mono ?_
    rintro e w4 ⟨rfl, k4⟩
    have HK := hid (kept_trans HD3.out.x.k k4)
    clear hF3 k4
    go_wp2_with fail
    go_ret
    exact ⟨rfl, HK.out⟩
  have d0' : ((m : Int) == 0) = false := by
    have : (m : Int) ≠ 0 := by omega
    simpa using this
  have e0' : ¬ (m : Int) = 0 := by omega
  obtain ⟨n0, hn0⟩ : ∃ r : Nat, tu % (m : Int) = (r : Int) := ⟨(tu % (m : Int)).toNat, by have := Int.emod_nonneg tu (b := (m : Int)) (by omega); omega⟩
  have hn0l : n0 < m := by have := Int.emod_lt_of_pos tu (b := (m : Int)) (by omega); omega
  have t1 : Int.tmod tu (m : Int) = (n0 : Int) := by rw [Int.tmod_eq_emod_of_nonneg htu.1, hn0]
  have t2 : IntKind.i64.wrap tu = tu := IntWalk.i64_in _ (by omega)
  have t3 : IntKind.i64.wrap (n0 : Int) = (n0 : Int) := IntWalk.i64_in _ (by omega)
  obtain ⟨g, o, rfl⟩ := HP.out (by omega)
  clear hn0
  go_wp2_with fail
  clear t1 t2 t3
  go_loopw [63] (fun j wr => ∃ (k : Nat) (F G : Nat → Prop), k ≤ m ∧ j = .int .i64 (k : Int) ∧ Hid (Ap T w X Y (foldC (newC names3) (l.take k)) (foldC (newC names3) (walkL l n0 k)) F G wr)) (fun j _ => m - (intOf j).toNat)
  case atStart => exact ⟨0, F, G, Nat.zero_le _, rfl, HD3⟩
  case round =>
    obtain ⟨k, F3, G3, hk, rfl, HDr⟩ := hrel
    clear HD3
    by_cases hlt : k < m
    · obtain ⟨x, hx, hx2⟩ := HG.out k hlt
      have HX := hid (And.intro hx hx2)
      have HLx : Hid (foldC (newC names3) (l.take (k + 1)) = addC (foldC (newC names3) (l.take k)) x.name x.n) := hid (by rw [take_next hx, fold_next])
      clear hx hx2
      generalize foldC (newC names3) (l.take k) = LX at *
      have hA := ct_all HT.out HDr.out.x HDr.out.sx
      go_wp2_with fail
      refine hA.mono ?_
      rintro e w4 ⟨rw4, rfl, o4, t4, k4⟩
      have kd := kept_drew (kept_refl w4)
      have HDd := hid (ap_kept HT.out HDr.out (kept_trans k4 kd))
      have HRwd := hid (og_stays o4 kd)
      have HRwa := hid (apart_new HT.out.obj HDr.out.x.t o4 (Nat.le_refl _))
      have hAdd := ct_add HT.out HDd.out.x HDd.out.sx x.name HX.out.2.2 HX.out.2.1
      have hS := rg_O (rg_kept encO_ok HR.out HDd.out.x.k) HX.out.1
      clear hA o4 t4 k4 kd HDr
      go_upto_region 11 with fail
      refine wp_region_noPanic ?_
      refine wp_region_held_drew (S := (fun w' => (w'.cell? ⟨g, o + k * 3, none⟩ = some (.bool x.reset)) ∧ (w'.cell? ⟨g, o + k * 3 + 1, none⟩ = some (.string x.name)) ∧ (w'.cell? ⟨g, o + k * 3 + 2, none⟩ = some (.int .u64 x.n)))) (by kernel_rfl) (hS) (fun hHeld => ?_)
      generalize w4.drew = wd at *
      refine wpAnyH_take (i := 0) (v := .pointer (some ⟨X, 0, none⟩)) rfl (by kernel_rfl) (by kernel_rfl) (by kernel_rfl) (fun _ _ _ h => h) (Or.inl ⟨by rfl, fun w hSw => by (try dsimp only at hSw); go_simp⟩) (by assumption) ?_
      try simp only [List.getElem_toArray, List.getElem_cons_zero, List.getElem_cons_succ, Act.put, List.setIfInBounds_toArray, List.set_cons_zero, List.set_cons_succ]
      refine wpAnyH_take (i := 1) (v := .slice (some ⟨g, o, none⟩) m cap) rfl (by kernel_rfl) (by kernel_rfl) (by kernel_rfl) (fun _ _ _ h => h) (Or.inl ⟨by rfl, fun w hSw => by (try dsimp only at hSw); go_simp⟩) (by assumption) ?_
      try simp only [List.getElem_toArray, List.getElem_cons_zero, List.getElem_cons_succ, Act.put, List.setIfInBounds_toArray, List.set_cons_zero, List.set_cons_succ]
      refine wpAnyH_take (i := 2) (v := .int .i64 (k : Int)) rfl (by kernel_rfl) (by kernel_rfl) (by kernel_rfl) (fun _ _ _ h => h) (Or.inl ⟨by rfl, fun w hSw => by (try dsimp only at hSw); go_simp⟩) (by assumption) ?_
      try simp only [List.getElem_toArray, List.getElem_cons_zero, List.getElem_cons_succ, Act.put, List.setIfInBounds_toArray, List.set_cons_zero, List.set_cons_succ]
      refine wpAnyH_take (i := 3) (v := .pointer (some ⟨g, o + k * 3, none⟩)) rfl (by kernel_rfl) (by kernel_rfl) (by kernel_rfl) (fun _ _ _ h => h) (Or.inl ⟨by rfl, fun w hSw => by (try dsimp only at hSw); go_simp⟩) (by assumption) ?_
      try simp only [List.getElem_toArray, List.getElem_cons_zero, List.getElem_cons_succ, Act.put, List.setIfInBounds_toArray, List.set_cons_zero, List.set_cons_succ]
      refine wpAnyH_take (i := 4) (v := .pointer (some ⟨g, o + k * 3 + 1, none⟩)) rfl (by kernel_rfl) (by kernel_rfl) (by kernel_rfl) (fun _ _ _ h => h) (Or.inl ⟨by rfl, fun w hSw => by (try dsimp only at hSw); go_simp⟩) (by assumption) ?_
      try simp only [List.getElem_toArray, List.getElem_cons_zero, List.getElem_cons_succ, Act.put, List.setIfInBounds_toArray, List.set_cons_zero, List.set_cons_succ]
      refine wpAnyH_take (i := 5) (v := .string x.name) rfl (by kernel_rfl) (by kernel_rfl) (by kernel_rfl) (fun _ _ _ h => h) (Or.inl ⟨by rfl, fun w hSw => by (try dsimp only at hSw); go_simp⟩) (by assumption) ?_
      try simp only [List.getElem_toArray, List.getElem_cons_zero, List.getElem_cons_succ, Act.put, List.setIfInBounds_toArray, List.set_cons_zero, List.set_cons_succ]
      refine wpAnyH_take (i := 6) (v := .slice (some ⟨g, o, none⟩) m cap) rfl (by kernel_rfl) (by kernel_rfl) (by kernel_rfl) (fun _ _ _ h => h) (Or.inl ⟨by rfl, fun w hSw => by (try dsimp only at hSw); go_simp⟩) (by assumption) ?_
      try simp only [List.getElem_toArray, List.getElem_cons_zero, List.getElem_cons_succ, Act.put, List.setIfInBounds_toArray, List.set_cons_zero, List.set_cons_succ]
      refine wpAnyH_take (i := 7) (v := .int .i64 (k : Int)) rfl (by kernel_rfl) (by kernel_rfl) (by kernel_rfl) (fun _ _ _ h => h) (Or.inl ⟨by rfl, fun w hSw => by (try dsimp only at hSw); go_simp⟩) (by assumption) ?_
      try simp only [List.getElem_toArray, List.getElem_cons_zero, List.getElem_cons_succ, Act.put, List.setIfInBounds_toArray, List.set_cons_zero, List.set_cons_succ]
      refine wpAnyH_take (i := 8) (v := .pointer (some ⟨g, o + k * 3, none⟩)) rfl (by kernel_rfl) (by kernel_rfl) (by kernel_rfl) (fun _ _ _ h => h) (Or.inl ⟨by rfl, fun w hSw => by (try dsimp only at hSw); go_simp⟩) (by assumption) ?_
      try simp only [List.getElem_toArray, List.getElem_cons_zero, List.getElem_cons_succ, Act.put, List.setIfInBounds_toArray, List.set_cons_zero, List.set_cons_succ]
      refine wpAnyH_take (i := 9) (v := .pointer (some ⟨g, o + k * 3 + 2, none⟩)) rfl (by kernel_rfl) (by kernel_rfl) (by kernel_rfl) (fun _ _ _ h => h) (Or.inl ⟨by rfl, fun w hSw => by (try dsimp only at hSw); go_simp⟩) (by assumption) ?_
      try simp only [List.getElem_toArray, List.getElem_cons_zero, List.getElem_cons_succ, Act.put, List.setIfInBounds_toArray, List.set_cons_zero, List.set_cons_succ]
      refine wpAnyH_take (i := 10) (v := .int .u64 x.n) rfl (by kernel_rfl) (by kernel_rfl) (by kernel_rfl) (fun _ _ _ h => h) (Or.inl ⟨by rfl, fun w hSw => by (try dsimp only at hSw); go_simp⟩) (by assumption) ?_
      try simp only [List.getElem_toArray, List.getElem_cons_zero, List.getElem_cons_succ, Act.put, List.setIfInBounds_toArray, List.set_cons_zero, List.set_cons_succ]
      refine wpAnyH_ready (rs := [11]) (by kernel_rfl) (by simp) ?_
      refine AllReadyH.cons (i := 11) rfl (fun K hK => ?_) AllReadyH.nil
      go_simp
      refine (hAdd).mono ?_
      rintro e w6 ⟨F6, rfl, t6, d6⟩
      have HD6 := hid (ap_x HT.out HDd.out t6 d6 (add_lsok HDd.out.sx x.name HX.out.2.1))
      have HRw6 := hid (og_sd HRwd.out HRwa.out d6)
      have hS := rg_O (rg_kept encO_ok HR.out HD6.out.x.k) HX.out.1
      clear t6 d6 hAdd HDd HRwd HRwa
      clear hHeld
      show K _ _
      refine hK.out _ _ (hS) (fun hHeld => ?_)
      clear hK K
      try simp only [List.getElem_toArray, List.getElem_cons_zero, List.getElem_cons_succ, Act.put, List.setIfInBounds_toArray, List.set_cons_zero, List.set_cons_succ]
      refine wpAnyH_done (by kernel_rfl) ?_ _
      refine NoPanic.normal ?_
      clear hHeld hS
      have hA2 := ct_all HT.out HD6.out.x HD6.out.sx
      go_wp2_with fail
      refine hA2.mono ?_
      rintro e w7 ⟨r2, rfl, o7, t7, k7⟩
      have HD7 := hid (ap_kept HT.out HD6.out k7)
      have HR7 := hid (og_stays HRw6.out k7)
      have HO7 := hid (rg_own encC_ok o7)
      obtain ⟨ga, gc, rfl, -, -⟩ := og_is encC_ok o7
      have HAo := hid (fun (i : Nat) (c d : Ct) (hc : LX[i]? = some c) (hd : (addC LX x.name x.n)[i]? = some d) (hn : d.name ≠ x.name) => add_other (n := x.n) hc hd hn)
      have hlx : (addC LX x.name x.n).length = LX.length := add_len LX x.name x.n
      have hmz : (addC LX x.name x.n).length ≤ 4096 := HD7.out.sx.1
      obtain ⟨wb, wc, rfl, -, -⟩ := og_is encC_ok HR7.out
      generalize addC LX x.name x.n = LZ at *
      have HGz : Hid (∀ i, i < LZ.length → ∃ d c, LZ[i]? = some d ∧ LX[i]? = some c) := hid (fun i hi => ⟨_, _, List.getElem?_eq_getElem hi, List.getElem?_eq_getElem (by omega)⟩)
      have HPz : Hid (0 < LZ.length → ∃ g o, ga = some ⟨g, o, none⟩) := hid (fun hp => by
        obtain ⟨g, o, c, e⟩ := rg_pos HO7.out hp
        injection e with e1
        exact ⟨g, o, e1⟩)
      have HPx : Hid (0 < LX.length → ∃ g o, wb = some ⟨g, o, none⟩) := hid (fun hp => by
        obtain ⟨g, o, c, e⟩ := rg_pos (rg_own encC_ok HR7.out) hp
        injection e with e1
        exact ⟨g, o, e1⟩)
      have HRx := hid (rg_own encC_ok HR7.out)
      generalize LX.length = mz at *
      generalize LZ.length = mz' at *
      subst hlx
      clear hA2 o7 t7 k7 HD6 HRw6 HR7
      go_wp2_with fail
      go_loopw [83] (fun j wq => ∃ i : Nat, i ≤ mz' ∧ j = .int .i64 (i : Int) ∧ Hid (Kept w7 wq)) (fun j _ => mz' - (intOf j).toNat)
      case atStart => exact ⟨0, Nat.zero_le _, rfl, hid (kept_refl _)⟩
      case round =>
        obtain ⟨i, hi, rfl, HKq⟩ := hrel
        by_cases hil : i < mz'
        · obtain ⟨d, c, hd, hc⟩ := HGz.out i hil
          obtain ⟨g2, o2, rfl⟩ := HPz.out (by omega)
          obtain ⟨g3, o3, rfl⟩ := HPx.out (by omega)
          obtain ⟨c0, c1⟩ := rg_C (rg_kept encC_ok HO7.out HKq.out) hd
          have HAd := hid (HAo.out i c d hc hd)
          have ka := kept_alloc (kept_refl wr) (.cells #[.string d.name, .int .u64 d.n] 46)
          have HKa := hid (kept_trans HKq.out ka)
          have HZs := hid (at_new wr #[.string d.name, .int .u64 d.n] 46)
          have HC := hid hc
          clear hd hc ka
          go_upto_region 15 with fail
          generalize wr.alloc (.cells #[.string d.name, .int .u64 d.n] 46) = wv at *
          generalize wr.heap.size = Zs at *
          clear c0 c1
          have y0 := at_cell HZs.out 0
          have y1 := at_cell HZs.out 1
          replace y0 : wv.cell? ⟨Zs, 0, none⟩ = some (.string d.name) := y0
          replace y1 : wv.cell? ⟨Zs, 1, none⟩ = some (.int .u64 d.n) := y1
          obtain ⟨p0, p1⟩ := rg_C (rg_kept encC_ok HRx.out HKa.out) HC.out
          obtain ⟨q0, q1, q2⟩ := rg_O (rg_kept encO_ok HR.out (kept_trans HD7.out.x.k HKa.out)) HX.out.1
          cases hs : sameT d.name x.name with
          | true =>
            unfold sameT at hs
            go_quiet (fail)
            go_wp2_with fail
            go_roundw
            case rel => exact ⟨i + 1, by omega, by go_num, hid (kept_drewN HKa.out _)⟩
            case measure => simp [intOf]; omega
          | false =>
            obtain rfl : d = c := HAd.out (fun e => by rw [e, sameT_refl] at hs; cases hs)
            have heq := eq_stat d
            unfold sameT at hs
            go_quiet (fail)
            go_wp2_with fail
            go_roundw
            case rel => exact ⟨i + 1, by omega, by go_num, hid (kept_drewN HKa.out _)⟩
            case measure => simp [intOf]; omega
        · have he : i = mz' := by omega
          subst he
          obtain ⟨hr1, hr2, hr3⟩ := HRt.out n0 k hn0l hlt
          obtain ⟨y, hy, hy2⟩ := HG.out _ hr1
          have HLy : Hid (foldC (newC names3) (walkL l n0 (k + 1)) = addC (foldC (newC names3) (walkL l n0 k)) y.name y.n) := hid (by rw [hr3 y hy, fold_next])
          generalize rot n0 m k = r at *
          have hrz : (r : Int) < (m : Int) := by omega
          have hm2 : m ≤ 200 := by omega
          have HDq := hid (ap_kept HT.out HD7.out HKq.out)
          generalize foldC (newC names3) (walkL l n0 k) = LY at *
          obtain ⟨c0, c1, c2⟩ := rg_O (rg_kept encO_ok HR.out HDq.out.x.k) hy
          have ka := kept_alloc (kept_refl wr) (.cells #[.bool y.reset, .string y.name, .int .u64 y.n] 34)
          have HDa := hid (ap_kept HT.out HDq.out ka)
          have hB := ct_add HT.out HDa.out.y HDa.out.sy y.name hy2.2 hy2.1
          obtain ⟨z0, z1, z2⟩ := cells3 (at_new wr #[.bool y.reset, .string y.name, .int .u64 y.n] 34)
          have HY2 := hid hy2
          clear ka hr3 hy hy2
          go_wp2_with fail
          refine hB.mono ?_
          rintro e w8 ⟨G8, rfl, t8, d8⟩
          have HD8 := hid (ap_swap (ap_x HT.out (ap_swap HDa.out) t8 d8 (add_lsok HDa.out.sy y.name HY2.out.1)))
          clear hB t8 d8
          go_wp2_with fail
          go_roundw
          case rel => exact ⟨k + 1, _, G8, by omega, by go_num, hid (by rw [HLx.out, HLy.out]; exact HD8.out)⟩
          case measure => simp [intOf]; omega
    · have he : k = m := by omega
      subst he
      have hfold : foldC (newC names3) (walkL l n0 k) = foldC (newC names3) l := (fold_perm _ (HWp.out n0 hn0l).symm HU.out).symm
      rw [HTk.out, hfold] at HDr
      generalize foldC (newC names3) l = LZ at *
      have hA := ct_all HT.out HDr.out.x HDr.out.sx
      go_wp2_with fail
      refine hA.mono ?_
      rintro e w4 ⟨r4, rfl, o4, t4, k4⟩
      have HD4 := hid (ap_kept HT.out HDr.out k4)
      have hB := ct_all HT.out HD4.out.y HD4.out.sy
      have HO4 := hid o4
      clear hA o4 t4 k4
      go_wp2_with fail
      refine hB.mono ?_
      rintro e w5 ⟨r5, rfl, o5, t5, k5⟩
      have HK5 := hid t5.k
      have hS := rsame_any LZ _ _ w5 (rg_own encC_ok (og_stays HO4.out k5)) (rg_own encC_ok o5)
      clear hB o5 t5 k5
      go_wp2_with fail
      refine hS.mono ?_
      rintro e w6 ⟨rfl, k6⟩
      have HK6 := hid (kept_trans HK5.out k6)
      clear hS k6
      go_wp2_with fail
      go_ret
      exact ⟨rfl, HK6.out⟩
end Go.Proofs.Ytibidhmahjbciaa
