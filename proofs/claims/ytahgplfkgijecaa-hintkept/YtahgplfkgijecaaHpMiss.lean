/- The reference's Missing. -/
import Derived.Test.YtahgplfkgijecaaHpFind
import Derived.Test.YtahgplfkgijecaaRgRef
namespace Go.Proofs.Ytahgplfkgijecaa
open Go.ChangeShapes Go.WideShapes Go.ChangeAt Go.RowKit
set_option linter.unusedVariables false
set_option linter.unusedSimpArgs false
set_option maxRecDepth 100000

theorem infoD : (Try.prog.info? 66).map (fun i => (i.zero, i.size, i.bytes)) = some (some (.agg (encD ⟨0, zeroRec⟩).toArray), 9, 72) := by kernel_rfl
theorem tyD : TyG Try.prog 46 66 9 72 := by
  obtain ⟨i0, hi, hz0, hz1, hz2⟩ := info_parts infoD
  exact ⟨Try.underlying46, i0, _, hi, hz0, hz1, hz2, rfl⟩
def missP (r : R) (has : Nat → Bool) (os : List Int) : List Snd := (os.filter (fun o => !has o.toNat)).map (fun o => ⟨o, r⟩)
theorem missP_yes {r : R} {has : Nat → Bool} {os : List Int} {k : Nat} (h : has k = false) : missP r has (os ++ [(k : Int)]) = missP r has os ++ [⟨(k : Int), r⟩] := by
  unfold missP
  rw [List.filter_append, List.map_append]
  simp [h]
theorem missP_no {r : R} {has : Nat → Bool} {os : List Int} {k : Nat} (h : has k = true) : missP r has (os ++ [(k : Int)]) = missP r has os := by
  unfold missP
  rw [List.filter_append, List.map_append]
  simp [h]
theorem missP_len (r : R) (has : Nat → Bool) (os : List Int) : (missP r has os).length ≤ os.length := by
  unfold missP
  rw [List.length_map]
  exact List.length_filter_le _ _
theorem missL_next {l : List Ht} {i : Nat} {x : Ht} (hx : l[i]? = some x) (up : List Int) : missL (l.take (i + 1)) up = missL (l.take i) up ++ missP x.r x.has (owners x.r.key up) := by
  unfold missL
  rw [take_next hx, List.flatMap_append]
  congr 1
  rw [List.flatMap_cons, List.flatMap_nil, List.append_nil]
  rfl
theorem missL_len (up : List Int) : ∀ l : List Ht, (missL l up).length ≤ 2 * l.length
  | [] => by simp [missL]
  | h :: t => by
    have ih := missL_len up t
    have e : missL (h :: t) up = missOf up h ++ missL t up := by unfold missL; rw [List.flatMap_cons]
    have h1 : (missOf up h).length ≤ 2 := Nat.le_trans (missP_len h.r h.has _) (owners_len _ _)
    rw [e, List.length_append, List.length_cons]
    omega
theorem builtD (w : World) : Og encD 9 66 (w.alloc (.cells #[] 66)) w.heap.size (.slice (some ⟨w.heap.size, 0, none⟩) 0 0) [] := og_built encD_ok 66 w _ (Nat.le_refl _) [] (by decide)
theorem owner_nat {key : ByteArray} {up : List Int} {y : Int} {j : Nat} (h : (owners key up)[j]? = some y) : ∃ k : Nat, y = (k : Int) ∧ k < 64 := by
  obtain ⟨h1, h2, _⟩ := owners_in (List.mem_of_getElem? h)
  exact ⟨y.toNat, by omega, by omega⟩
set_option maxHeartbeats 12800000 in
theorem rmissing_any (l : List Ht) (hn : l.length ≤ 64) (hk : ∀ x ∈ l, x.r.key.size ≤ 1000) (up : List Int) (hu : up.length ≤ 100) (v vu : Value) (w : World) (h : Rg encX 72 w v l) (hup : Rg encU 1 w vu up) : Calls Try.prog 17 #[v, vu] w (GRowC encD 9 66 (missL l up) w) := by
  have HR := hid h
  have HU := hid hup
  have HKy := hid hk
  have HUl := hid hu
  obtain ⟨a, cap, rfl, -, -, -, -⟩ := h
  have HG : Hid (∀ k, k < l.length → ∃ y, l[k]? = some y) := hid (fun k hk => ⟨l[k], List.getElem?_eq_getElem hk⟩)
  have HP : Hid (0 < l.length → ∃ g o, a = some ⟨g, o, none⟩) := hid (fun hp => by
    obtain ⟨g, o, c, e⟩ := rg_pos HR.out hp
    injection e with e1
    exact ⟨g, o, e1⟩)
  have HTT : Hid (l.take l.length = l) := hid List.take_length
  have HLn : Hid (∀ i, (missL (l.take i) up).length ≤ 128) := hid (fun i => by
    have h1 := missL_len up (l.take i)
    have h2 := List.length_take_le i l
    have h3 : (l.take i).length ≤ l.length := by rw [List.length_take]; omega
    omega)
  have HB0 := hid (builtD w)
  have HK0 := hid (kept_alloc (kept_refl w) (.cells #[] 66))
  generalize hm : l.length = m at *
  clear hm hup hk hu
  go_enter Try.func17, Try.ntmps17
  go_wp2_with fail
  go_loopw [5, 12] (fun nv iv wr => ∃ i : Nat, i ≤ m ∧ iv = .int .i64 (i : Int) ∧ Hid (Og encD 9 66 wr w.heap.size nv (missL (l.take i) up)) ∧ Hid (Kept w wr)) (fun _ iv _ => m - (intOf iv).toNat)
  case atStart => exact ⟨0, Nat.zero_le _, rfl, hid HB0.out, HK0⟩
  case round =>
    obtain ⟨i, hi, rfl, HO, HKr⟩ := hrel
    clear HB0 HK0
    by_cases hlt : i < m
    · have hltz : (i : Int) < (m : Int) := by omega
      obtain ⟨x, hx⟩ := HG.out i hlt
      obtain ⟨g, o, rfl⟩ := HP.out (by omega)
      obtain ⟨c0, -⟩ := rg_X (rg_kept encX_ok HR.out HKr.out) hx
      have HX := hid hx
      have C := rowners_any x.r.key (HKy.out x (List.mem_of_getElem? hx)) up (by have := HUl.out; omega) vu wr (rg_kept encU_ok HU.out HKr.out)
      have HNx := hid (missL_next hx up)
      have HYn : Hid (∀ (j : Nat) (y : Int), (owners x.r.key up)[j]? = some y → ∃ k : Nat, y = (k : Int) ∧ k < 64) := hid (fun j y hy => owner_nat hy)
      have HOl := hid (owners_len x.r.key up)
      clear hx
      generalize owners x.r.key up = os at *
      go_wp2_with fail
      refine C.mono ?_
      rintro e w2 ⟨v2, rfl, o2', n2, k2⟩
      have HOs := hid (og_low o2' (Nat.zero_le _))
      have HR2 := hid (rg_own encU_ok o2')
      have HOo := hid (og_stays HO.out k2)
      have HK2 := hid (kept_trans HKr.out k2)
      clear C n2 o2' k2 c0
      obtain ⟨b2, c2, rfl, -, -, -, -⟩ := HR2.out
      have HG2 : Hid (∀ k, k < os.length → ∃ y, os[k]? = some y) := hid (fun k hk => ⟨os[k], List.getElem?_eq_getElem hk⟩)
      have HP2 : Hid (0 < os.length → ∃ g o, b2 = some ⟨g, o, none⟩) := hid (fun hp => by
        obtain ⟨g, o, c, e⟩ := rg_pos HR2.out hp
        injection e with e1
        exact ⟨g, o, e1⟩)
      have HTo : Hid (os.take os.length = os) := hid List.take_length
      have hq2 : os.length ≤ 2 := HOl.out
      generalize hq : os.length = q at *
      clear hq
      go_wp2_with fail
      go_loopw [5, 25] (fun rv jv wi => ∃ j : Nat, j ≤ q ∧ jv = .int .i64 (j : Int) ∧ Hid (Og encD 9 66 wi w.heap.size rv (missL (l.take i) up ++ missP x.r x.has (os.take j))) ∧ Hid (Og encU 1 5 wi 0 (.slice b2 q c2) os) ∧ Hid (Kept w wi)) (fun _ jv _ => q - (intOf jv).toNat)
      case atStart => exact ⟨0, Nat.zero_le _, rfl, hid (by rw [List.take_zero]; show Og _ _ _ _ _ _ (missL (l.take i) up ++ []); rw [List.append_nil]; exact HOo.out), HOs, HK2⟩
      case round =>
        obtain ⟨j, hj, rfl, HOi, HQi, HKi⟩ := hrel
        by_cases hjl : j < q
        · have hjz : (j : Int) < (q : Int) := by omega
          obtain ⟨y, hy⟩ := HG2.out j hjl
          obtain ⟨k, rfl, hk64⟩ := HYn.out j y hy
          have hkz : (k : Int) < 64 := by omega
          obtain ⟨g2, o2, rfl⟩ := HP2.out (by omega)
          have cy := rg_U (rg_own encU_ok HQi.out) hy
          have ch := rg_Xh (rg_kept encX_ok HR.out HKi.out) HX.out hk64
          have hTk := take_next hy
          have HSx : Hid (∀ u, Og encU 1 5 u 0 (.slice (some ⟨g2, o2, none⟩) q c2) os → Kept w u → (u.cell? ⟨g2, o2 + j, none⟩ = some (.int .u8 (k : Int))) ∧ (u.cell? ⟨g, o + i * 72, none⟩ = some (.string x.r.key) ∧ u.cell? ⟨g, o + i * 72 + 1, none⟩ = some (.int .u64 x.r.s.p) ∧ u.cell? ⟨g, o + i * 72 + 2, none⟩ = some (.int .u32 x.r.s.l) ∧ u.cell? ⟨g, o + i * 72 + 3, none⟩ = some (.int .u8 x.r.s.n) ∧ u.cell? ⟨g, o + i * 72 + 4, none⟩ = some (.int .u8 x.r.kind) ∧ u.cell? ⟨g, o + i * 72 + 5, none⟩ = some (.int .u32 x.r.flags) ∧ u.cell? ⟨g, o + i * 72 + 6, none⟩ = some (.int .u64 x.r.exp) ∧ u.cell? ⟨g, o + i * 72 + 7, none⟩ = some (.string x.r.body))) := hid (fun u ou ku => ⟨rg_U (rg_own encU_ok ou) hy, rg_X (rg_kept encX_ok HR.out ku) HX.out⟩)
          cases hh : x.has k with
          | true =>
            rw [hh] at ch
            have HM : Hid (missP x.r x.has (os.take (j + 1)) = missP x.r x.has (os.take j)) := hid (by rw [hTk]; exact missP_no hh)
            clear hy hTk hh
            go_wp2_with fail
            go_quiet (fail)
            go_wp2_with fail
            go_roundw
            case rel => exact ⟨j + 1, by omega, by go_num, hid (by rw [HM.out]; exact og_stays HOi.out (kept_drewN (kept_refl _) _)), hid (og_stays HQi.out (kept_drewN (kept_refl _) _)), hid (kept_drewN HKi.out _)⟩
            case measure => simp [intOf]; omega
          | false =>
            rw [hh] at ch
            have HM : Hid (missP x.r x.has (os.take (j + 1)) = missP x.r x.has (os.take j) ++ [⟨(k : Int), x.r⟩]) := hid (by rw [hTk]; exact missP_yes hh)
            have HLp : Hid ((missP x.r x.has (os.take j)).length ≤ 2) := hid (by
              have h1 := missP_len x.r x.has (os.take j)
              have h2 : (os.take j).length ≤ 2 := by rw [List.length_take]; omega
              omega)
            clear hy hTk hh
            go_wp2_with fail
            go_quiet (fail)
            go_wp2_with fail
            obtain ⟨wi, hwi⟩ : ∃ u, wr.drewN nq = u := ⟨_, rfl⟩
            have HKw : Hid (Kept w wi) := hid (by rw [← hwi]; exact kept_drewN HKi.out nq)
            have HOw : Hid (Og encD 9 66 wi w.heap.size u5 (missL (l.take i) up ++ missP x.r x.has (os.take j))) := hid (by rw [← hwi]; exact og_stays HOi.out (kept_drewN (kept_refl _) nq))
            have HQw : Hid (Og encU 1 5 wi 0 (.slice (some ⟨g2, o2, none⟩) q c2) os) := hid (by rw [← hwi]; exact og_stays HQi.out (kept_drewN (kept_refl _) nq))
            rw [hwi]
            have hS0 := HSx.out wi HQw.out HKw.out
            have HK1 : Hid (Kept w wi.drew) := hid HKw.out
            have HO1 : Hid (Og encD 9 66 wi.drew w.heap.size u5 (missL (l.take i) up ++ missP x.r x.has (os.take j))) := hid HOw.out
            have HQ1 : Hid (Og encU 1 5 wi.drew 0 (.slice (some ⟨g2, o2, none⟩) q c2) os) := hid HQw.out
            have hSj := HSx.out wi.drew HQ1.out HK1.out
            have hka := kept_alloc (kept_refl wi.drew) (.cells #[.int .u8 (k : Int), .string x.r.key, .int .u64 x.r.s.p, .int .u32 x.r.s.l, .int .u8 x.r.s.n, .int .u8 x.r.kind, .int .u32 x.r.flags, .int .u64 x.r.exp, .string x.r.body] 66)
            have HKa := hid (kept_trans HK1.out hka)
            have HOa := hid (og_stays HO1.out hka)
            have HQa := hid (og_stays HQ1.out hka)
            have hSa := HSx.out _ HQa.out HKa.out
            have HAl := hid (rg_alone encD_ok (y := (⟨(k : Int), x.r⟩ : Snd)) (at_new wi.drew #[.int .u8 (k : Int), .string x.r.key, .int .u64 x.r.s.p, .int .u32 x.r.s.l, .int .u8 x.r.s.n, .int .u8 x.r.kind, .int .u32 x.r.flags, .int .u64 x.r.exp, .string x.r.body] 66))
            obtain ⟨v3, w3, hrun, hown3, hgrow3, -⟩ := grun_app encD_ok tyD (by decide) HOa.out HAl.out (by have := HLn.out i; have := HLp.out; rw [List.length_append]; simp; omega) HKa.out.2 46
            have HK3 := hid (kept_gr HKa.out hgrow3 (fun q hq => og_lt HOa.out hq))
            have HQ3 := hid (og_beside HQa.out HOa.out (by decide) hgrow3)
            have HO3 : Hid (Og encD 9 66 w3 w.heap.size v3 (missL (l.take i) up ++ missP x.r x.has (os.take (j + 1)))) := hid (by rw [HM.out, ← List.append_assoc]; exact hown3)
            have hSb := HSx.out w3 HQ3.out HK3.out
            clear hka hown3 hgrow3 cy ch hwi HOi HQi HKi
            refine wp_region_noPanic ?_
            refine wp_region_held_drew (S := (fun w' => (w'.cell? ⟨g2, o2 + j, none⟩ = some (.int .u8 (k : Int))) ∧ (w'.cell? ⟨g, o + i * 72, none⟩ = some (.string x.r.key) ∧ w'.cell? ⟨g, o + i * 72 + 1, none⟩ = some (.int .u64 x.r.s.p) ∧ w'.cell? ⟨g, o + i * 72 + 2, none⟩ = some (.int .u32 x.r.s.l) ∧ w'.cell? ⟨g, o + i * 72 + 3, none⟩ = some (.int .u8 x.r.s.n) ∧ w'.cell? ⟨g, o + i * 72 + 4, none⟩ = some (.int .u8 x.r.kind) ∧ w'.cell? ⟨g, o + i * 72 + 5, none⟩ = some (.int .u32 x.r.flags) ∧ w'.cell? ⟨g, o + i * 72 + 6, none⟩ = some (.int .u64 x.r.exp) ∧ w'.cell? ⟨g, o + i * 72 + 7, none⟩ = some (.string x.r.body)))) (by kernel_rfl) (by assumption) (fun hHeld => ?_)
            generalize wi.drew = wj at *
            refine wpAnyH_take (i := 0) (v := u5) rfl (by kernel_rfl) (by kernel_rfl) (by kernel_rfl) (fun _ _ _ h => h) (Or.inl ⟨by rfl, fun w hSw => by (try dsimp only at hSw); go_simp⟩) (by assumption) ?_
            try simp only [List.getElem_toArray, List.getElem_cons_zero, List.getElem_cons_succ, Act.put, List.setIfInBounds_toArray, List.set_cons_zero, List.set_cons_succ]
            refine wpAnyH_take (i := 1) (v := .slice (some ⟨g2, o2, none⟩) q c2) rfl (by kernel_rfl) (by kernel_rfl) (by kernel_rfl) (fun _ _ _ h => h) (Or.inl ⟨by rfl, fun w hSw => by (try dsimp only at hSw); go_simp⟩) (by assumption) ?_
            try simp only [List.getElem_toArray, List.getElem_cons_zero, List.getElem_cons_succ, Act.put, List.setIfInBounds_toArray, List.set_cons_zero, List.set_cons_succ]
            refine wpAnyH_take (i := 2) (v := .int .i64 (j : Int)) rfl (by kernel_rfl) (by kernel_rfl) (by kernel_rfl) (fun _ _ _ h => h) (Or.inl ⟨by rfl, fun w hSw => by (try dsimp only at hSw); go_simp⟩) (by assumption) ?_
            try simp only [List.getElem_toArray, List.getElem_cons_zero, List.getElem_cons_succ, Act.put, List.setIfInBounds_toArray, List.set_cons_zero, List.set_cons_succ]
            refine wpAnyH_take (i := 3) (v := .pointer (some ⟨g2, o2 + j, none⟩)) rfl (by kernel_rfl) (by kernel_rfl) (by kernel_rfl) (fun _ _ _ h => h) (Or.inl ⟨by rfl, fun w hSw => by (try dsimp only at hSw); go_simp⟩) (by assumption) ?_
            try simp only [List.getElem_toArray, List.getElem_cons_zero, List.getElem_cons_succ, Act.put, List.setIfInBounds_toArray, List.set_cons_zero, List.set_cons_succ]
            refine wpAnyH_take (i := 4) (v := .int .u8 (k : Int)) rfl (by kernel_rfl) (by kernel_rfl) (by kernel_rfl) (fun _ _ _ h => h) (Or.inl ⟨by rfl, fun w hSw => by (try dsimp only at hSw); go_simp⟩) (by assumption) ?_
            try simp only [List.getElem_toArray, List.getElem_cons_zero, List.getElem_cons_succ, Act.put, List.setIfInBounds_toArray, List.set_cons_zero, List.set_cons_succ]
            refine wpAnyH_take (i := 5) (v := .slice (some ⟨g, o, none⟩) m cap) rfl (by kernel_rfl) (by kernel_rfl) (by kernel_rfl) (fun _ _ _ h => h) (Or.inl ⟨by rfl, fun w hSw => by (try dsimp only at hSw); go_simp⟩) (by assumption) ?_
            try simp only [List.getElem_toArray, List.getElem_cons_zero, List.getElem_cons_succ, Act.put, List.setIfInBounds_toArray, List.set_cons_zero, List.set_cons_succ]
            refine wpAnyH_take (i := 6) (v := .int .i64 (i : Int)) rfl (by kernel_rfl) (by kernel_rfl) (by kernel_rfl) (fun _ _ _ h => h) (Or.inl ⟨by rfl, fun w hSw => by (try dsimp only at hSw); go_simp⟩) (by assumption) ?_
            try simp only [List.getElem_toArray, List.getElem_cons_zero, List.getElem_cons_succ, Act.put, List.setIfInBounds_toArray, List.set_cons_zero, List.set_cons_succ]
            refine wpAnyH_take (i := 7) (v := .pointer (some ⟨g, o + i * 72, none⟩)) rfl (by kernel_rfl) (by kernel_rfl) (by kernel_rfl) (fun _ _ _ h => h) (Or.inl ⟨by rfl, fun w hSw => by (try dsimp only at hSw); go_simp⟩) (by assumption) ?_
            try simp only [List.getElem_toArray, List.getElem_cons_zero, List.getElem_cons_succ, Act.put, List.setIfInBounds_toArray, List.set_cons_zero, List.set_cons_succ]
            refine wpAnyH_take (i := 8) (v := .pointer (some ⟨g, o + i * 72, none⟩)) rfl (by kernel_rfl) (by kernel_rfl) (by kernel_rfl) (fun _ _ _ h => h) (Or.inl ⟨by rfl, fun w hSw => by (try dsimp only at hSw); go_simp⟩) (by assumption) ?_
            try simp only [List.getElem_toArray, List.getElem_cons_zero, List.getElem_cons_succ, Act.put, List.setIfInBounds_toArray, List.set_cons_zero, List.set_cons_succ]
            refine wpAnyH_take (i := 9) (v := .agg #[.string x.r.key, .int .u64 x.r.s.p, .int .u32 x.r.s.l, .int .u8 x.r.s.n, .int .u8 x.r.kind, .int .u32 x.r.flags, .int .u64 x.r.exp, .string x.r.body]) rfl (by kernel_rfl) (by kernel_rfl) (by kernel_rfl) (fun _ _ _ h => h) (Or.inl ⟨by rfl, fun w hSw => by (try dsimp only at hSw); go_simp⟩) (by assumption) ?_
            try simp only [List.getElem_toArray, List.getElem_cons_zero, List.getElem_cons_succ, Act.put, List.setIfInBounds_toArray, List.set_cons_zero, List.set_cons_succ]
            refine wpAnyH_take (i := 10) (v := .agg #[.int .u8 (k : Int), .string x.r.key, .int .u64 x.r.s.p, .int .u32 x.r.s.l, .int .u8 x.r.s.n, .int .u8 x.r.kind, .int .u32 x.r.flags, .int .u64 x.r.exp, .string x.r.body]) rfl (by kernel_rfl) (by kernel_rfl) (by kernel_rfl) (fun _ _ _ h => h) (Or.inl ⟨by rfl, fun w hSw => by (try dsimp only at hSw); go_simp⟩) (by assumption) ?_
            try simp only [List.getElem_toArray, List.getElem_cons_zero, List.getElem_cons_succ, Act.put, List.setIfInBounds_toArray, List.set_cons_zero, List.set_cons_succ]
            refine wpAnyH_ready (rs := [11]) (by kernel_rfl) (by simp) ?_
            refine AllReadyH.cons (i := 11) rfl (fun K hK => ?_) AllReadyH.nil
            go_simp
            have hS := hSa
            clear hHeld
            show K _ _
            refine hK.out _ _ (by assumption) (fun hHeld => ?_)
            clear hK K
            try simp only [List.getElem_toArray, List.getElem_cons_zero, List.getElem_cons_succ, Act.put, List.setIfInBounds_toArray, List.set_cons_zero, List.set_cons_succ]
            refine wpAnyH_ready (rs := [12]) (by kernel_rfl) (by simp) ?_
            refine AllReadyH.cons (i := 12) rfl (fun K hK => ?_) AllReadyH.nil
            refine op_run (t := 46) (.tmp 39) (.tmp 50) 46 rfl _ _ _ rfl rfl hrun ?_
            have hS := hSb
            clear hHeld
            show K _ _
            refine hK.out _ _ (by assumption) (fun hHeld => ?_)
            clear hK K
            try simp only [List.getElem_toArray, List.getElem_cons_zero, List.getElem_cons_succ, Act.put, List.setIfInBounds_toArray, List.set_cons_zero, List.set_cons_succ]
            refine wpAnyH_take (i := 13) (v := v3) rfl (by kernel_rfl) (by kernel_rfl) (by kernel_rfl) (fun _ _ _ h => h) (Or.inl ⟨by rfl, fun w hSw => by (try dsimp only at hSw); go_simp⟩) (by assumption) ?_
            try simp only [List.getElem_toArray, List.getElem_cons_zero, List.getElem_cons_succ, Act.put, List.setIfInBounds_toArray, List.set_cons_zero, List.set_cons_succ]
            refine wpAnyH_done (by kernel_rfl) ?_ _
            refine NoPanic.normal ?_
            clear hSj hSa hSb hrun hS0 hHeld
            go_wp2_with fail
            go_roundw
            case rel => exact ⟨j + 1, by omega, by go_num, HO3, HQ3, HK3⟩
            case measure => simp [intOf]; omega
        · have hje : j = q := by omega
          subst hje
          go_wp2_with fail
          go_roundw
          case rel => exact ⟨i + 1, by omega, by go_num, hid (by rw [HNx.out]; have := HOi.out; rw [HTo.out] at this; exact this), HKi⟩
          case measure => simp [intOf]; omega
    · have he : i = m := by omega
      subst he
      have hO := HO.out
      rw [HTT.out] at hO
      have HO2 := hid hO
      clear hO
      go_wp2_with fail
      go_ret
      exact ⟨_, rfl, HO2.out, HKr.out⟩
end Go.Proofs.Ytahgplfkgijecaa
