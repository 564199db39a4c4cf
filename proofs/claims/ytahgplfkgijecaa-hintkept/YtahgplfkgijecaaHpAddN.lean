/- The reference's Add of a key that has no hint. -/
import Derived.Test.YtahgplfkgijecaaHpAdd
namespace Go.Proofs.Ytahgplfkgijecaa
open Go.ChangeShapes Go.WideShapes Go.ChangeAt Go.RowKit
set_option linter.unusedVariables false
set_option linter.unusedSimpArgs false
set_option maxRecDepth 100000

theorem add_full {n : Nat} {l : List Ht} {r : R} (h : badA r = false) (hf : fnd r.key l = none) (hn : n ≤ l.length) : addE n l r = 6 ∧ addL n l r = l := by
  obtain ⟨h1, h2⟩ := add_new (n := n) h hf
  rw [h1, h2, if_pos hn, if_pos hn]
  exact ⟨rfl, rfl⟩
theorem add_ins {n : Nat} {l : List Ht} {r : R} (h : badA r = false) (hf : fnd r.key l = none) (hn : ¬ n ≤ l.length) : addE n l r = 0 ∧ addL n l r = insH r l := by
  obtain ⟨h1, h2⟩ := add_new (n := n) h hf
  rw [h1, h2, if_neg hn, if_neg hn]
  exact ⟨rfl, rfl⟩
def sofar (r : R) (ys : List Ht) (b : Bool) : List Ht := if b then insH r ys else ys
def fits2 (r : R) (ys : List Ht) (b : Bool) : Prop := if b then ∃ x ∈ ys, cmpB r.key x.r.key < 0 else ∀ x ∈ ys, ¬ cmpB r.key x.r.key < 0
theorem sofar_len (r : R) (ys : List Ht) (b : Bool) : (sofar r ys b).length ≤ ys.length + 1 := by
  unfold sofar
  cases b
  · simp
  · simp [ins_len]
theorem step_past {r : R} {ys : List Ht} {y : Ht} (h : fits2 r ys true) : sofar r (ys ++ [y]) true = sofar r ys true ++ [y] ∧ fits2 r (ys ++ [y]) true := by
  unfold fits2 sofar at *
  simp only [if_pos] at *
  obtain ⟨x, hx, hc⟩ := h
  exact ⟨ins_past ⟨x, hx, hc⟩, x, List.mem_append_left _ hx, hc⟩
theorem step_hit {r : R} {ys : List Ht} {y : Ht} (h : fits2 r ys false) (hy : cmpB r.key y.r.key < 0) : sofar r (ys ++ [y]) true = sofar r ys false ++ [⟨r, nob⟩] ++ [y] ∧ fits2 r (ys ++ [y]) true := by
  unfold fits2 sofar at *
  simp only [Bool.false_eq_true, if_false, if_pos] at *
  exact ⟨ins_hit hy h, y, by simp, hy⟩
theorem step_low {r : R} {ys : List Ht} {y : Ht} (h : fits2 r ys false) (hy : ¬ cmpB r.key y.r.key < 0) : sofar r (ys ++ [y]) false = sofar r ys false ++ [y] ∧ fits2 r (ys ++ [y]) false := by
  unfold fits2 sofar at *
  simp only [Bool.false_eq_true, if_false] at *
  refine ⟨trivial, fun x hx => ?_⟩
  rcases List.mem_append.1 hx with hx | hx
  · exact h x hx
  · simp only [List.mem_cons, List.not_mem_nil, or_false] at hx
    subst hx
    exact hy
theorem step_end {r : R} {ys : List Ht} (h : fits2 r ys false) : insH r ys = sofar r ys false ++ [⟨r, nob⟩] := by
  unfold fits2 sofar at *
  simp only [Bool.false_eq_true, if_false] at *
  exact insX_end h
set_option maxHeartbeats 25600000 in
theorem radd_new (l : List Ht) (hn : l.length ≤ 64) (n : Nat) (r : R) (hr : r.ok) (v : Value) (w : World) (h : Rg encX 72 w v l) (hb : badA r = false) (hf : fnd r.key l = none) : Calls Try.prog 11 #[v, .int .i64 (n : Int), .agg #[.string r.key, .int .u64 r.s.p, .int .u32 r.s.l, .int .u8 r.s.n, .int .u8 r.kind, .int .u32 r.flags, .int .u64 r.exp, .string r.body]] w (AddC n l r v w) := by
  have HR := hid h
  have HB := hid hb
  have HFn := hid hf
  have kb := kept_alloc (kept_refl w) (.cells #[.string r.key, .int .u64 r.s.p, .int .u32 r.s.l, .int .u8 r.s.n, .int .u8 r.kind, .int .u32 r.flags, .int .u64 r.exp, .string r.body] 35)
  have aB := at_new w #[.string r.key, .int .u64 r.s.p, .int .u32 r.s.l, .int .u8 r.s.n, .int .u8 r.kind, .int .u32 r.flags, .int .u64 r.exp, .string r.body] 35
  obtain ⟨w0, hw0⟩ : ∃ u, w.alloc (.cells #[.string r.key, .int .u64 r.s.p, .int .u32 r.s.l, .int .u8 r.s.n, .int .u8 r.kind, .int .u32 r.flags, .int .u64 r.exp, .string r.body] 35) = u := ⟨_, rfl⟩
  obtain ⟨Z, hZ⟩ : ∃ u, w.heap.size = u := ⟨_, rfl⟩
  rw [hw0] at kb aB
  rw [hZ] at aB
  have HZ := hid aB
  have HK0 := hid kb
  obtain ⟨bm, bk⟩ := bad_not hb
  have C1 := refMay_any r hr w0
  rw [bm] at C1
  have hkd : (r.kind == 3) = false := by simpa using bk
  have HF := hid (fun u (ku : Kept w u) => rfind_any r.key l (by omega) v u (rg_kept encX_ok h ku))
  rw [hf] at HF
  have e5 : fcode none = -1 := rfl
  rw [e5] at HF
  have HS : Hid (∀ u, Kept w0 u → (u.cell? ⟨Z, 0, none⟩ = some (.string r.key) ∧ u.cell? ⟨Z, 1, none⟩ = some (.int .u64 r.s.p) ∧ u.cell? ⟨Z, 2, none⟩ = some (.int .u32 r.s.l) ∧ u.cell? ⟨Z, 3, none⟩ = some (.int .u8 r.s.n) ∧ u.cell? ⟨Z, 4, none⟩ = some (.int .u8 r.kind) ∧ u.cell? ⟨Z, 5, none⟩ = some (.int .u32 r.flags) ∧ u.cell? ⟨Z, 6, none⟩ = some (.int .u64 r.exp) ∧ u.cell? ⟨Z, 7, none⟩ = some (.string r.body))) := hid (fun u ku => by
    have a := at_kept HZ.out ku
    exact ⟨at_cell a 0, at_cell a 1, at_cell a 2, at_cell a 3, at_cell a 4, at_cell a 5, at_cell a 6, at_cell a 7⟩)
  obtain ⟨z0, z1, z2, z3, z4, z5, z6, z7⟩ := HS.out w0 (kept_refl w0)
  obtain ⟨a, cap, rfl, -, -, -, -⟩ := h
  have HG : Hid (∀ k, k < l.length → ∃ y, l[k]? = some y) := hid (fun k hk => ⟨l[k], List.getElem?_eq_getElem hk⟩)
  have HP : Hid (0 < l.length → ∃ g o, a = some ⟨g, o, none⟩) := hid (fun hp => by
    obtain ⟨g, o, c, e⟩ := rg_pos HR.out hp
    injection e with e1
    exact ⟨g, o, e1⟩)
  have HTT : Hid (l.take l.length = l) := hid List.take_length
  have HFull : Hid (n ≤ l.length → addE n l r = 6 ∧ addL n l r = l) := hid (fun hq => add_full hb hf hq)
  have HIns : Hid (¬ n ≤ l.length → addE n l r = 0 ∧ addL n l r = insH r l) := hid (fun hq => add_ins hb hf hq)
  have HLs : Hid (∀ i b, (sofar r (l.take i) b).length ≤ 65) := hid (fun i b => by
    have h1 := sofar_len r (l.take i) b
    have h2 : (l.take i).length ≤ 64 := by rw [List.length_take]; omega
    omega)
  generalize hm : l.length = m at *
  clear kb aB hb hf e5 hm hr bm bk
  go_enter Try.func11, Try.ntmps11
  go_wp2_with fail
  refine C1.mono ?_
  rintro e w1 ⟨rfl, k1⟩
  have HK1 := hid k1
  obtain ⟨y0, y1, y2, y3, y4, y5, y6, y7⟩ := HS.out w1 k1
  have C2 := HF.out w1 (kept_trans HK0.out k1)
  clear C1 k1 z0 z1 z2 z3 z4 z5 z6 z7
  go_wp2_with fail
  refine C2.mono ?_
  rintro e u2 ⟨rfl, e2⟩
  have e3 := e2.symm
  subst e3
  clear C2 e2
  by_cases hfull : n ≤ m
  · have hfz : (n : Int) ≤ (m : Int) := by omega
    have hfd : decide ((n : Int) ≤ (m : Int)) = true := by simpa using hfz
    have HE := hid (HFull.out hfull)
    go_wp2_with fail
    go_ret2
    exact ⟨_, says_num HE.out.1.symm _, by rw [HE.out.2]; exact rg_kept encX_ok HR.out (kept_trans HK0.out HK1.out), kept_trans HK0.out HK1.out, .inl rfl⟩
  · have hfz : ¬ (n : Int) ≤ (m : Int) := by omega
    have hfd : decide ((n : Int) ≤ (m : Int)) = false := by simpa using hfz
    have HE := hid (HIns.out hfull)
    have HO0 : Hid (Og encX 72 75 (w1.alloc (.cells #[] 75)) w0.heap.size (.slice (some ⟨w1.heap.size, 0, none⟩) 0 0) []) := hid (og_low (builtX0 w1) HK1.out.2)
    have HKb := hid (kept_alloc HK1.out (.cells #[] 75))
    clear y0 y1 y2 y3 y4 y5 y6 y7
    go_wp2_with fail
    go_loopw [9, 10, 50] (fun nv dv iv wr => ∃ (i : Nat) (b : Bool), i ≤ m ∧ iv = .int .i64 (i : Int) ∧ dv = .bool b ∧ Hid (Og encX 72 75 wr w0.heap.size nv (sofar r (l.take i) b)) ∧ Hid (fits2 r (l.take i) b) ∧ Hid (Kept w0 wr)) (fun _ _ iv _ => m - (intOf iv).toNat)
    case atStart => exact ⟨0, false, Nat.zero_le _, rfl, rfl, hid (by rw [List.take_zero]; exact HO0.out), hid (by rw [List.take_zero]; unfold fits2; simp), HKb⟩
    case round =>
      obtain ⟨i, b, hi, rfl, rfl, HO, HB2, HKr⟩ := hrel
      clear HO0 HKb
      have HLn := hid (HLs.out i b)
      by_cases hlt : i < m
      · have hltz : (i : Int) < (m : Int) := by omega
        obtain ⟨x, hx⟩ := HG.out i hlt
        obtain ⟨g, o, rfl⟩ := HP.out (by omega)
        have hTk := take_next hx
        have HX := hid hx
        obtain ⟨c0, -⟩ := rg_X (rg_kept encX_ok HR.out (kept_trans HK0.out HKr.out)) hx
        obtain ⟨z0, z1, z2, z3, z4, z5, z6, z7⟩ := HS.out wr HKr.out
        have hgt := key_gt x.r.key r.key
        clear hx
        cases b with
        | true =>
          have HN : Hid (sofar r (l.take (i + 1)) true = sofar r (l.take i) true ++ [x] ∧ fits2 r (l.take (i + 1)) true) := hid (by rw [hTk]; exact step_past HB2.out)
          clear hTk hgt
          go_wp2_with fail
          go_quiet (fail)
          obtain ⟨wi, hwi⟩ : ∃ u, wr.drewN nq = u := ⟨_, rfl⟩
          have HKw : Hid (Kept w0 wi) := hid (by rw [← hwi]; exact kept_drewN HKr.out nq)
          have HOw : Hid (Og encX 72 75 wi w0.heap.size u9 (sofar r (l.take i) true)) := hid (by rw [← hwi]; exact og_stays HO.out (kept_drewN (kept_refl wr) nq))
          rw [hwi]
          clear hwi HO HKr
          have HRx := hid (range_X (rg_kept encX_ok HR.out (kept_trans HK0.out HKw.out)) HX.out)
          have hka := kept_alloc (kept_refl wi) (.cells (encX x).toArray 75)
          have HKa := hid (kept_trans HKw.out hka)
          have HOa := hid (og_stays HOw.out hka)
          have HAo := hid (alone_X (w := wi) (h := x))
          clear hka
          clear c0 z0 z1 z2 z3 z4 z5 z6 z7
          go_wp2_with (first | (refine wpList_loadX rfl _ rfl _ _ rfl x HRx.out ?_) | (refine wpList_oneX rfl _ rfl _ rfl ?_) | (at_builtin; refine wpList_gapp rfl (.tmp 71) (.tmp 76) rfl encX_ok tyX (by decide) w0.heap.size _ _ _ [x] rfl HOa.out rfl HAo.out (by have := HLn.out; simp; omega) HKa.out.2 ?_; intro v7 w7 hown7 hgrow7 hnil7; have HO7 := hid hown7; have HK7 := hid (kept_gr HKa.out hgrow7 (fun q hq => og_lt HOa.out hq)); clear hown7 hgrow7 hnil7))
          go_roundw
          case rel => exact ⟨i + 1, true, by omega, by go_num, rfl, hid (by rw [HN.out.1]; exact HO7.out), hid HN.out.2, HK7⟩
          case measure => simp [intOf]; omega
        | false =>
          cases hc : decide (cmpB r.key x.r.key < 0) with
          | false =>
            rw [hc] at hgt
            have HN : Hid (sofar r (l.take (i + 1)) false = sofar r (l.take i) false ++ [x] ∧ fits2 r (l.take (i + 1)) false) := hid (by rw [hTk]; exact step_low HB2.out (of_decide_eq_false hc))
            clear hTk hc
            go_wp2_with fail
            go_quiet (fail)
            obtain ⟨wi, hwi⟩ : ∃ u, wr.drewN nq = u := ⟨_, rfl⟩
            have HKw : Hid (Kept w0 wi) := hid (by rw [← hwi]; exact kept_drewN HKr.out nq)
            have HOw : Hid (Og encX 72 75 wi w0.heap.size u9 (sofar r (l.take i) false)) := hid (by rw [← hwi]; exact og_stays HO.out (kept_drewN (kept_refl wr) nq))
            rw [hwi]
            clear hwi HO HKr
            have HRx := hid (range_X (rg_kept encX_ok HR.out (kept_trans HK0.out HKw.out)) HX.out)
            have hka := kept_alloc (kept_refl wi) (.cells (encX x).toArray 75)
            have HKa := hid (kept_trans HKw.out hka)
            have HOa := hid (og_stays HOw.out hka)
            have HAo := hid (alone_X (w := wi) (h := x))
            clear hka
            clear c0 z0 z1 z2 z3 z4 z5 z6 z7 hgt
            go_wp2_with (first | (refine wpList_loadX rfl _ rfl _ _ rfl x HRx.out ?_) | (refine wpList_oneX rfl _ rfl _ rfl ?_) | (at_builtin; refine wpList_gapp rfl (.tmp 71) (.tmp 76) rfl encX_ok tyX (by decide) w0.heap.size _ _ _ [x] rfl HOa.out rfl HAo.out (by have := HLn.out; simp; omega) HKa.out.2 ?_; intro v7 w7 hown7 hgrow7 hnil7; have HO7 := hid hown7; have HK7 := hid (kept_gr HKa.out hgrow7 (fun q hq => og_lt HOa.out hq)); clear hown7 hgrow7 hnil7))
            go_roundw
            case rel => exact ⟨i + 1, false, by omega, by go_num, rfl, hid (by rw [HN.out.1]; exact HO7.out), hid HN.out.2, HK7⟩
            case measure => simp [intOf]; omega
          | true =>
            rw [hc] at hgt
            have HN : Hid (sofar r (l.take (i + 1)) true = sofar r (l.take i) false ++ [⟨r, nob⟩] ++ [x] ∧ fits2 r (l.take (i + 1)) true) := hid (by rw [hTk]; exact step_hit HB2.out (of_decide_eq_true hc))
            clear hTk hc
            go_wp2_with fail
            go_quiet (fail)
            obtain ⟨wi, hwi⟩ : ∃ u, wr.drewN nq = u := ⟨_, rfl⟩
            have HKw : Hid (Kept w0 wi) := hid (by rw [← hwi]; exact kept_drewN HKr.out nq)
            have HOw : Hid (Og encX 72 75 wi w0.heap.size u9 (sofar r (l.take i) false)) := hid (by rw [← hwi]; exact og_stays HO.out (kept_drewN (kept_refl wr) nq))
            rw [hwi]
            clear hwi HO HKr
            have hkr := kept_alloc (kept_refl wi) (.cells (encX ⟨r, nob⟩).toArray 75)
            have HKr2 := hid (kept_trans HKw.out hkr)
            have HOr := hid (og_stays HOw.out hkr)
            have HAr := hid (alone_X (w := wi) (h := ⟨r, nob⟩))
            clear hkr
            clear c0 z0 z1 z2 z3 z4 z5 z6 z7 hgt
            obtain ⟨z0, z1, z2, z3, z4, z5, z6, z7⟩ := HS.out wi HKw.out
            go_wp2_with (first | (refine wpList_buildX rfl _ rfl r rfl ?_) | (refine wpList_loadX rfl _ rfl _ _ rfl x HRx3.out ?_) | (refine wpList_oneX rfl _ rfl _ rfl ?_) | (at_builtin; refine wpList_gapp rfl (.tmp 66) (.tmp 69) rfl encX_ok tyX (by decide) w0.heap.size _ _ _ [⟨r, nob⟩] rfl HOr.out rfl HAr.out (by have := HLn.out; simp; omega) HKr2.out.2 ?_; intro v3 w3 hown3 hgrow3 hnil3; have HO3 := hid hown3; have HK3 := hid (kept_gr HKr2.out hgrow3 (fun q hq => og_lt HOr.out hq)); clear hown3 hgrow3 hnil3; have HRx3 := hid (range_X (rg_kept encX_ok HR.out (kept_trans HK0.out HK3.out)) HX.out); have hka3 := kept_alloc (kept_refl w3) (.cells (encX x).toArray 75); have HKa3 := hid (kept_trans HK3.out hka3); have HOa3 := hid (og_stays HO3.out hka3); have HAo3 := hid (alone_X (w := w3) (h := x)); clear hka3) | (at_builtin; refine wpList_gapp rfl (.tmp 71) (.tmp 76) rfl encX_ok tyX (by decide) w0.heap.size _ _ _ [x] rfl HOa3.out rfl HAo3.out (by have := HLn.out; simp; omega) HKa3.out.2 ?_; intro v7 w7 hown7 hgrow7 hnil7; have HO7 := hid hown7; have HK7 := hid (kept_gr HKa3.out hgrow7 (fun q hq => og_lt HOa3.out hq)); clear hown7 hgrow7 hnil7))
            go_roundw
            case rel => exact ⟨i + 1, true, by omega, by go_num, rfl, hid (by rw [HN.out.1]; exact HO7.out), hid HN.out.2, HK7⟩
            case measure => simp [intOf]; omega
      · have he : i = m := by omega
        have HI : Hid (l.take i = l) := hid (by rw [he]; exact HTT.out)
        clear he
        cases b with
        | true =>
          have hO := HO.out
          rw [HI.out] at hO
          have HO2 : Hid (Og encX 72 75 wr w0.heap.size u9 (insH r l)) := hid hO
          clear hO
          go_wp2_with fail
          go_ret2
          exact ⟨_, says_num HE.out.1.symm _, by rw [HE.out.2]; exact rg_own encX_ok HO2.out, kept_trans HK0.out HKr.out, .inr (fun q hq => Nat.le_trans HK0.out.2 (og_lt HO2.out hq))⟩
        | false =>
          have HN : Hid (insH r l = sofar r (l.take i) false ++ [⟨r, nob⟩]) := hid (by rw [HI.out]; exact step_end (by have := HB2.out; rw [HI.out] at this; exact this))
          obtain ⟨z0, z1, z2, z3, z4, z5, z6, z7⟩ := HS.out wr HKr.out
          have hkr := kept_alloc (kept_refl wr) (.cells (encX ⟨r, nob⟩).toArray 75)
          have HKr2 := hid (kept_trans HKr.out hkr)
          have HOr := hid (og_stays HO.out hkr)
          have HAr := hid (alone_X (w := wr) (h := ⟨r, nob⟩))
          clear hkr
          go_wp2_with (first | (refine wpList_buildX rfl _ rfl r rfl ?_) | (refine wpList_oneX rfl _ rfl _ rfl ?_) | (at_builtin; refine wpList_gapp rfl (.tmp 81) (.tmp 84) rfl encX_ok tyX (by decide) w0.heap.size _ _ _ [⟨r, nob⟩] rfl HOr.out rfl HAr.out (by have := HLn.out; simp; omega) HKr2.out.2 ?_; intro v3 w3 hown3 hgrow3 hnil3; have HO3 := hid hown3; have HK3 := hid (kept_gr HKr2.out hgrow3 (fun q hq => og_lt HOr.out hq)); clear hown3 hgrow3 hnil3))
          go_ret2
          exact ⟨_, says_num HE.out.1.symm _, by rw [HE.out.2, HN.out]; exact rg_own encX_ok HO3.out, kept_trans HK0.out HK3.out, .inr (fun q hq => Nat.le_trans HK0.out.2 (og_lt HO3.out hq))⟩
theorem radd_any (l : List Ht) (hn : l.length ≤ 64) (hok : ∀ x ∈ l, x.r.ok) (n : Nat) (r : R) (hr : r.ok) (v : Value) (w : World) (h : Rg encX 72 w v l) : Calls Try.prog 11 #[v, .int .i64 (n : Int), .agg #[.string r.key, .int .u64 r.s.p, .int .u32 r.s.l, .int .u8 r.s.n, .int .u8 r.kind, .int .u32 r.flags, .int .u64 r.exp, .string r.body]] w (AddC n l r v w) := by
  cases hb : badA r with
  | true => exact radd_bad l n r hr v w h hb
  | false =>
    cases hf : fnd r.key l with
    | none => exact radd_new l hn n r hr v w h hb hf
    | some i =>
      obtain ⟨x, hx, -, -⟩ := fnd_some hf
      exact radd_old l hn hok n r hr v w h hb hf hx
end Go.Proofs.Ytahgplfkgijecaa
