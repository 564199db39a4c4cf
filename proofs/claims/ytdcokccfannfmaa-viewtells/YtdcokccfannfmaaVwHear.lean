/- The contract of the reference's Hear. Views have at most 64 members, news at most 2000. -/
import Derived.Test.YtdcokccfannfmaaVwRows
namespace Go.Proofs.Ytdcokccfannfmaa
open Go.ChangeShapes Go.WideShapes Go.ChangeAt Go.RowKit
set_option linter.unusedVariables false
set_option linter.unusedSimpArgs false
set_option maxRecDepth 100000

/- A row stands while another one's cells are written. -/
theorem og_aside {α : Type} {enc : α → List Value} {c T U B : Nat} {w : World} {v : Value} {xs : List α} {q : Nat} {cs : Array Value} (h : Og enc c T w B v xs) (hq : At w q cs U) (hTU : T ≠ U) (o : Nat) (u : Value) : Og enc c T (w.setCell ⟨q, o, none⟩ u) B v xs :=
  og_block h (fun g cur _ ha => Below.heap_setCell _ _ _ _ (at_ne ha hq hTU))
def HearC (self : Int) (v : List M) (l : List Nw) (w : World) (e : Ending) (w' : World) : Prop := ∃ v1 v2, e = .returned (.tuple #[v1, v2]) ∧ Rg encM 2 w' v1 (hearV self v l) ∧ Rg encN 3 w' v2 (hearC self v l) ∧ Kept w w'
/- What stands in a round: the row out at q, the row of changes. -/
structure Hr (w : World) (B q n co : Nat) (V : List M) (cv : Value) (C : List Nw) (wr : World) : Prop where
  out : Og encM 2 33 wr B (.slice (some ⟨q, 0, none⟩) n co) V
  chg : Og encN 3 42 wr B cv C
  kept : Kept w wr
  base : w.heap.size = B
section
variable {w wr w' : World} {B q n co : Nat} {V : List M} {cv : Value} {C : List Nw}
theorem hr_kept (h : Hr w B q n co V cv C wr) (k : Kept wr w') : Hr w B q n co V cv C w' := ⟨og_stays h.out k, og_stays h.chg k, kept_trans h.kept k, h.base⟩
theorem hr_lt (h : Hr w B q n co V cv C wr) : q < wr.heap.size := by
  obtain ⟨cs, ha⟩ := og_type h.out
  exact at_lt ha
theorem hr_cells (h : Hr w B q n co V cv C wr) {i : Nat} {m : M} (hm : V[i]? = some m) : wr.cell? ⟨q, i * 2, none⟩ = some (.int .u8 m.st) ∧ wr.cell? ⟨q, i * 2 + 1, none⟩ = some (.int .u32 m.inc) ∧ ∀ j, wr.frozen? ⟨q, j, none⟩ = false := by
  obtain ⟨h1, h2⟩ := rg_M (rg_own encM_ok h.out) hm
  rw [Nat.zero_add] at h1 h2
  exact ⟨h1, h2, og_frozen h.out⟩
theorem hr_put0 (h : Hr w B q n co V cv C wr) {i : Nat} {m : M} (hm : V[i]? = some m) (s : Int) : Hr w B q n co (V.set i ⟨s, m.inc⟩) cv C (wr.setCell ⟨q, i * 2, none⟩ (.int .u8 s)) := by
  obtain ⟨cs, ha⟩ := og_type h.out
  have hq : B ≤ q := og_lt h.out rfl
  exact ⟨og_put encM_ok h.out (j := 0) hm (by decide) rfl, og_aside h.chg ha (by decide) _ _, kept_set h.kept (by rw [h.base]; exact hq) _ _, h.base⟩
theorem hr_put1 (h : Hr w B q n co V cv C wr) {i : Nat} {m : M} (hm : V[i]? = some m) (s : Int) : Hr w B q n co (V.set i ⟨m.st, s⟩) cv C (wr.setCell ⟨q, i * 2 + 1, none⟩ (.int .u32 s)) := by
  obtain ⟨cs, ha⟩ := og_type h.out
  have hq : B ≤ q := og_lt h.out rfl
  exact ⟨og_put encM_ok h.out (j := 1) hm (by decide) rfl, og_aside h.chg ha (by decide) _ _, kept_set h.kept (by rw [h.base]; exact hq) _ _, h.base⟩
theorem hr_put2 (h : Hr w B q n co V cv C wr) {i : Nat} {m : M} (hm : V[i]? = some m) (x : M) : Hr w B q n co (V.set i x) cv C ((wr.setCell ⟨q, i * 2, none⟩ (.int .u8 x.st)).setCell ⟨q, i * 2 + 1, none⟩ (.int .u32 x.inc)) := by
  have hi := (List.getElem?_eq_some_iff.1 hm).1
  have h1 := hr_put0 h hm x.st
  have h2 := hr_put1 h1 (i := i) (m := ⟨x.st, m.inc⟩) (by simp [hi]) x.inc
  rw [List.set_set] at h2
  exact h2
end
set_option maxHeartbeats 12800000 in
theorem rhear_any (self : Int) (v : List M) (l : List Nw) (hv : v.length ≤ 64) (hl : l.length ≤ 2000) (hm : ∀ m ∈ v, okM m) (hx : ∀ x ∈ l, okN x) (vv lv : Value) (w : World) (h : Rg encM 2 w vv v) (hn : Rg encN 3 w lv l) : Calls Try.prog 12 #[vv, .int .u8 self, lv] w (HearC self v l w) := by
  have HR := hid h
  have HL := hid hn
  have HOkV := hid hm
  have HOkL := hid hx
  obtain ⟨a, cap, rfl, -, -, -, -⟩ := h
  obtain ⟨b, capb, rfl, -, -, -, -⟩ := hn
  have HG : Hid (∀ k, k < l.length → ∃ y, l[k]? = some y) := hid (fun k hk => ⟨l[k], List.getElem?_eq_getElem hk⟩)
  have HP : Hid (0 < l.length → ∃ g o, b = some ⟨g, o, none⟩) := hid (fun hp => by
    obtain ⟨g, o, c, e⟩ := rg_pos HL.out hp
    injection e with e1
    exact ⟨g, o, e1⟩)
  have HT : Hid (l.take l.length = l) := hid List.take_length
  have HCle : Hid (∀ k, (hearC self v (l.take k)).length ≤ 2000) := hid (fun k => by
    have := hearC_len (self := self) (l.take k) v
    rw [List.length_take] at this
    omega)
  have HVle : Hid (∀ k, (hearV self v (l.take k)).length = v.length) := hid (fun k => hearV_len _ _)
  have HVok : Hid (∀ k, ∀ m ∈ hearV self v (l.take k), okM m) := hid (fun k => hearV_ok (l.take k) v hm (fun x hx' => hx x (List.mem_of_mem_take hx')))
  have HEnd : Hid (∀ v1 v2 u B q n co, v1 = .slice (some ⟨q, 0, none⟩) n co → Hr w B q n co (hearV self v l) v2 (hearC self v l) u → HearC self v l w (.returned (.tuple #[v1, v2])) u) := hid (fun v1 v2 u B q n co e h => ⟨v1, v2, rfl, by rw [e]; exact rg_own encM_ok h.out, rg_own encN_ok h.chg, h.kept⟩)
  have HO0 := hid (builtM w)
  have HK0 := hid (kept_alloc (kept_refl w) (.cells #[] 33))
  have HR0 := hid (rg_kept encM_ok HR.out HK0.out)
  have HBw : Hid (w.heap.size ≤ (w.alloc (.cells #[] 33)).heap.size) := hid HK0.out.2
  have HVl : Hid (v.length ≤ 64) := hid hv
  obtain ⟨ln, hln⟩ : ∃ ln, l.length = ln := ⟨_, rfl⟩
  rw [hln] at HG HP HT HL hl ⊢
  clear hln hv hm hx
  go_enter Try.func12, Try.ntmps12
  go_wp2_with (at_builtin; go_must (refine wpList_gapp rfl (.tmp 15) (.tmp 16) rfl encM_ok tyM (by decide) w.heap.size _ _ _ _ rfl HO0.out rfl HR0.out (by have := HVl.out; simp; omega) HBw.out ?_; intro v3 w3 hown3 hgrow3 hnil3))
  rw [List.nil_append] at hown3
  have hK3 := kept_gr HK0.out hgrow3 (fun j hj => og_lt HO0.out hj)
  obtain ⟨q, co, hvq⟩ := og_some hown3 (hnil3 (by show (Value.slice (some ⟨w.heap.size, 0, none⟩) 0 0) ≠ Value.slice none 0 0; simp))
  subst hvq
  have hK4 := kept_alloc hK3 (.cells #[] 42)
  have HH0 : Hid (Hr w w.heap.size q v.length co v (.slice (some ⟨w3.heap.size, 0, none⟩) 0 0) [] (w3.alloc (.cells #[] 42))) := hid ⟨og_stays hown3 (kept_alloc (kept_refl w3) (.cells #[] 42)), og_low (builtN w3) hK3.2, hK4, rfl⟩
  clear hown3 hgrow3 hnil3 hK3 hK4 HO0 HK0 HR0 HBw
  obtain ⟨n, hnn⟩ : ∃ n, v.length = n := ⟨_, rfl⟩
  have HNn : Hid (n ≤ 64) := hid (by have := HVl.out; omega)
  rw [hnn] at HH0 HVle ⊢
  clear hnn
  go_wp2_with fail
  generalize w3.alloc (.cells #[] 42) = w4 at *
  generalize w3.heap.size = P3 at *
  generalize hB0 : w.heap.size = B0 at *
  clear hB0
  go_loopw [9, 21] (fun cv j wr => ∃ k : Nat, k ≤ ln ∧ j = .int .i64 (k : Int) ∧ Hid (Hr w B0 q n co (hearV self v (l.take k)) cv (hearC self v (l.take k)) wr)) (fun _ j _ => ln - (intOf j).toNat)
  case atStart => exact ⟨0, Nat.zero_le _, rfl, HH0⟩
  case round =>
    obtain ⟨k, hk, rfl, HHr⟩ := hrel
    clear HH0
    by_cases hlt : k < ln
    · obtain ⟨x, hx⟩ := HG.out k hlt
      obtain ⟨g, o, rfl⟩ := HP.out (by omega)
      have hxo := HOkL.out x (List.mem_of_getElem? hx)
      obtain ⟨nd, xm, hxe, hnd⟩ : ∃ (nd : Nat) (xm : M), x = ⟨(nd : Int), xm⟩ ∧ nd < 256 := by
        obtain ⟨⟨h1, h2⟩, _⟩ := hxo
        exact ⟨x.node.toNat, x.m, by cases x; simp only at h1 h2 ⊢; congr 1; omega, by omega⟩
      have HNv : Hid (hearV self v (l.take (k + 1)) = stepV self (hearV self v (l.take k)) x) := hid (by rw [take_next hx, hearV_snoc])
      have HNc : Hid (hearC self v (l.take (k + 1)) = hearC self v (l.take k) ++ stepC self (hearV self v (l.take k)) x) := hid (by rw [take_next hx, hearC_snoc])
      obtain ⟨c0, c1, c2⟩ := rg_N (rg_kept encN_ok HL.out HHr.out.kept) hx
      subst hxe
      have HXo : Hid (okM xm) := hid hxo.2
      have HCl := hid (HCle.out k)
      have HVk := hid (HVle.out k)
      have HVo := hid (HVok.out k)
      clear hx hxo
      generalize hearV self v (l.take k) = V at *
      generalize hearC self v (l.take k) = C at *
      have hw := (show wrap64 (nd : Int) = (nd : Int) by unfold wrap64; omega)
      have zs := zeroM wr
      have HHa := hid (hr_kept HHr.out (kept_alloc (kept_refl wr) (.cells #[.int .u8 xm.st, .int .u32 xm.inc] 33)))
      have HAx := hid (at_new wr #[.int .u8 xm.st, .int .u32 xm.inc] 33)
      have HP1 : Hid (q < wr.heap.size) := hid (hr_lt HHr.out)
      clear HHr
      by_cases hin : nd < n
      · have hin2 : ¬ (n : Int) ≤ (nd : Int) := by omega
        obtain ⟨was, hwas⟩ : ∃ was, V[nd]? = some was := ⟨_, List.getElem?_eq_getElem (by rw [HVk.out]; exact hin)⟩
        by_cases h0 : xm.st = 0
        · have hb0 : (xm.st == 0) = true := by simpa using h0
          have HRv : Hid (stepV self V ⟨(nd : Int), xm⟩ = V ∧ stepC self V ⟨(nd : Int), xm⟩ = []) := hid (by
            have hvf : val xm = false := by unfold val; simp [h0]
            unfold stepV stepC
            simp [hwas, hvf])
          clear h0 hwas
          go_wp2_with fail
          go_roundw
          case rel => exact ⟨k + 1, by omega, by go_num, hid (by rw [HNv.out, HNc.out, HRv.out.1, HRv.out.2, List.append_nil]; exact HHa.out)⟩
          case measure => simp [intOf]; omega
        · have hb0 : (xm.st == 0) = false := by simpa using h0
          by_cases h4 : (4 : Int) < xm.st
          · have HRv : Hid (stepV self V ⟨(nd : Int), xm⟩ = V ∧ stepC self V ⟨(nd : Int), xm⟩ = []) := hid (by
              have hvf : val xm = false := by unfold val; simp; omega
              unfold stepV stepC
              simp [hwas, hvf])
            clear h0 hwas
            go_wp2_with fail
            go_roundw
            case rel => exact ⟨k + 1, by omega, by go_num, hid (by rw [HNv.out, HNc.out, HRv.out.1, HRv.out.2, List.append_nil]; exact HHa.out)⟩
            case measure => simp [intOf]; omega
          · have hvt : val xm = true := by
              have := HXo.out.1.1
              unfold val
              simp
              omega
            have HSt : Hid (∀ nx, nextM self ⟨(nd : Int), xm⟩ was = nx → stepV self V ⟨(nd : Int), xm⟩ = V.set nd nx ∧ stepC self V ⟨(nd : Int), xm⟩ = if sameM nx was then [] else [⟨(nd : Int), nx⟩]) := hid (fun nx e => by
              unfold stepV stepC
              simp only [Int.toNat_natCast, hwas, hvt, e]
              cases sameM nx was <;> simp)
            have HVs : Hid (∀ nx : M, (V.set nd nx)[nd]? = some nx) := hid (fun nx => by
              have := (List.getElem?_eq_some_iff.1 hwas).1
              simp [this])
            have HWas := hid hwas
            have HWo := hid (HVo.out was (List.mem_of_getElem? hwas))
            have HSelf : Hid (V.set nd was = V) := hid (by
              obtain ⟨h1, h2⟩ := List.getElem?_eq_some_iff.1 hwas
              rw [← h2]
              exact List.set_getElem_self h1)
            obtain ⟨o0, o1, ofr⟩ := hr_cells HHa.out hwas
            clear hwas hvt h0
            have HHb := hid (hr_kept HHa.out (kept_alloc (kept_refl _) (.cells #[.int .u8 was.st, .int .u32 was.inc] 33)))
            have HAxb := hid (at_alloc HAx.out (.cells #[.int .u8 was.st, .int .u32 was.inc] 33))
            have HAwb := hid (at_new (wr.alloc (.cells #[.int .u8 xm.st, .int .u32 xm.inc] 33)) #[.int .u8 was.st, .int .u32 was.inc] 33)
            simp only [World.size_alloc] at HAwb
            have zs2 := zeroM (wr.alloc (.cells #[.int .u8 xm.st, .int .u32 xm.inc] 33))
            by_cases es : (nd : Int) = self
            · have hb1 : ((nd : Int) == self) = true := by simpa using es
              have HNx : Hid (nextM self ⟨(nd : Int), xm⟩ was = selfM xm was) := hid (by unfold nextM; rw [if_pos es])
              clear es
              by_cases hgt : was.inc < xm.inc
              · have HCd : Hid (was.inc < xm.inc ∨ (xm.inc = was.inc ∧ xm.st ≠ 1)) := hid (by exact .inl hgt)
                have HXi := hid HXo.out.2

                obtain ⟨wB, hwB⟩ : ∃ wB, (wr.alloc (.cells #[.int .u8 xm.st, .int .u32 xm.inc] 33)).alloc (.cells #[.int .u8 was.st, .int .u32 was.inc] 33) = wB := ⟨_, rfl⟩
                rw [hwB] at HHb HAxb HAwb
                obtain ⟨P1, hP1⟩ : ∃ P1, wr.heap.size = P1 := ⟨_, rfl⟩
                rw [hP1] at HAxb HP1 HAwb
                obtain ⟨P2, hP2⟩ : ∃ P2, P1 + 1 = P2 := ⟨_, rfl⟩
                rw [hP2] at HAwb
                have hqP : q ≠ P2 := by have := HP1.out; omega
                have hqQ : q ≠ P1 := by have := HP1.out; omega
                have HHc := hid (hr_put2 HHb.out HWas.out ⟨1, xm.inc⟩)
                have HAxc := hid (at_other (at_other HAxb.out (fun e => hqQ e.symm) (nd * 2) (.int .u8 1)) (fun e => hqQ e.symm) (nd * 2 + 1) (.int .u32 xm.inc))
                have HAwc := hid (at_other (at_other HAwb.out (fun e => hqP e.symm) (nd * 2) (.int .u8 1)) (fun e => hqP e.symm) (nd * 2 + 1) (.int .u32 xm.inc))
                obtain ⟨d0, d1, dfr⟩ := hr_cells HHb.out HWas.out
                obtain ⟨x0, x1⟩ := at_cells2 HAxb.out
                obtain ⟨y0, y1⟩ := at_cells2 HAwb.out
                obtain ⟨wC, hwC⟩ : ∃ wC, (wB.setCell ⟨q, nd * 2, none⟩ (.int .u8 1)).setCell ⟨q, nd * 2 + 1, none⟩ (.int .u32 xm.inc) = wC := ⟨_, rfl⟩
                simp only [] at HHc
                rw [hwC] at HHc HAxc HAwc
                obtain ⟨x2, x3⟩ := at_cells2 HAxc.out
                obtain ⟨d2, d3, dfc⟩ := hr_cells HHc.out (HVs.out _)
                by_cases hmx : xm.inc < 4294967295
                · have hwi := (show IntKind.u32.wrap (xm.inc + 1) = xm.inc + 1 by rw [IntKind.wrap_u32]; have := HXi.out; omega)
                  have HHd := hid (hr_put1 HHc.out (HVs.out _) (xm.inc + 1))
                  simp only [List.set_set] at HHd
                  have HAwd := hid (at_other HAwc.out (fun e => hqP e.symm) (nd * 2 + 1) (.int .u32 (xm.inc + 1)))
                  obtain ⟨V1, hV1⟩ : ∃ V1, V.set nd ⟨1, xm.inc + 1⟩ = V1 := ⟨_, rfl⟩
                  have HNy : Hid (selfM xm was = ⟨1, xm.inc + 1⟩) := hid (by unfold selfM; rw [if_pos HCd.out, if_pos hmx])
                  have HSm : Hid (sameM ⟨1, xm.inc + 1⟩ was = false) := hid ((sameM_false _ _).2 (fun e => by have := congrArg M.inc e; simp only at this; have := HCd.out; omega))
                  have HRv : Hid (hearV self v (l.take (k + 1)) = V1) := hid (by rw [HNv.out, (HSt.out _ (HNx.out.trans HNy.out)).1, hV1])
                  have HRc : Hid (hearC self v (l.take (k + 1)) = C ++ [⟨(nd : Int), ⟨1, xm.inc + 1⟩⟩]) := hid (by rw [HNc.out, (HSt.out _ (HNx.out.trans HNy.out)).2, HSm.out]; rfl)
                  have HVn : Hid (V1[nd]? = some ⟨1, xm.inc + 1⟩) := hid (by rw [← hV1]; exact HVs.out _)
                  rw [hV1] at HHd
                  clear hV1
                  go_wp2_with fail
                  clear hwB hwC hP2 hP1 c0 c1 c2 zs zs2 o0 o1 ofr d0 d1 dfr x0 x1 y0 y1 x2 x3 d2 d3 dfc
                  generalize wC.setCell ⟨q, nd * 2 + 1, none⟩ (.int .u32 (xm.inc + 1)) = wD at *
                  have HH := HHd
                  have HAw := HAwd
                  have heq := eq_M (⟨1, xm.inc + 1⟩ : M) was
                  rw [HSm.out] at heq
                  obtain ⟨o0, o1, -⟩ := hr_cells HH.out HVn.out
                  obtain ⟨y0, y1⟩ := at_cells2 HAw.out
                  have HQ : Hid (∀ u, Kept wD u → Hr w B0 q n co V1 u9 C (u.alloc (.cells #[.int .u8 (nd : Int), .int .u8 1, .int .u32 (xm.inc + 1)] 42)) ∧ Rg encN 3 (u.alloc (.cells #[.int .u8 (nd : Int), .int .u8 1, .int .u32 (xm.inc + 1)] 42)) (.slice (some ⟨u.heap.size, 0, none⟩) 1 1) [⟨(nd : Int), (⟨1, xm.inc + 1⟩ : M)⟩] ∧ B0 ≤ (u.alloc (.cells #[.int .u8 (nd : Int), .int .u8 1, .int .u32 (xm.inc + 1)] 42)).heap.size) := hid (fun u ku => by
                    have hh := hr_kept (hr_kept HH.out ku) (kept_alloc (kept_refl u) (.cells #[.int .u8 (nd : Int), .int .u8 1, .int .u32 (xm.inc + 1)] 42))
                    refine ⟨hh, rg_alone encN_ok (y := ⟨(nd : Int), (⟨1, xm.inc + 1⟩ : M)⟩) (at_new u #[.int .u8 (nd : Int), .int .u8 1, .int .u32 (xm.inc + 1)] 42), ?_⟩
                    have h1 := hh.kept.2
                    rw [hh.base] at h1
                    exact h1)
                  have HCell : Hid (∀ u, Kept wD u → u.cell? ⟨q, nd * 2, none⟩ = some (.int .u8 1) ∧ u.cell? ⟨q, nd * 2 + 1, none⟩ = some (.int .u32 (xm.inc + 1))) := hid (fun u ku => by
                    obtain ⟨h1, h2, -⟩ := hr_cells (hr_kept HH.out ku) HVn.out
                    exact ⟨h1, h2⟩)
                  go_wp2_with fail
                  go_quiet (fail)
                  clear heq o0 o1 y0 y1
                  rename_i nq
                  obtain ⟨hq1, hq2, hq3⟩ := HQ.out (World.drewN wD nq) (kept_drewN (kept_refl _) _)
                  have HQ1 := hid hq1
                  have HQ2 := hid hq2
                  have HQ3 := hid hq3
                  clear hq1 hq2 hq3
                  obtain ⟨o0, o1⟩ := HCell.out (World.drewN wD nq) (kept_drewN (kept_refl _) _)
                  go_wp2_with (at_builtin; go_must (refine wpList_gapp rfl (.tmp 102) (.tmp 109) rfl encN_ok tyN (by decide) B0 _ _ _ _ rfl HQ1.out.chg rfl HQ2.out (by have := HCl.out; simp; omega) HQ3.out ?_; intro v9 w9 hown9 hgrow9 hnil9))
                  have HH9 : Hid (Hr w B0 q n co V1 v9 (C ++ [⟨(nd : Int), (⟨1, xm.inc + 1⟩ : M)⟩]) w9) := hid ⟨og_beside HQ1.out.out HQ1.out.chg (by decide) hgrow9, hown9, kept_gr HQ1.out.kept hgrow9 (fun j hj => by have := og_lt HQ1.out.chg hj; have := HQ1.out.base; omega), HQ1.out.base⟩
                  clear hown9 hgrow9 hnil9
                  go_roundw
                  case rel => exact ⟨k + 1, by omega, by go_num, hid (by rw [HRv.out, HRc.out]; exact HH9.out)⟩
                  case measure => simp [intOf]; omega
                · have hmx2 : decide (xm.inc < 4294967295) = false := by simpa using hmx
                  have HNy : Hid (selfM xm was = ⟨1, xm.inc⟩) := hid (by unfold selfM; rw [if_pos HCd.out, if_neg hmx])
                  obtain ⟨V1, hV1⟩ : ∃ V1, V.set nd ⟨1, xm.inc⟩ = V1 := ⟨_, rfl⟩
                  have HVn : Hid (V1[nd]? = some ⟨1, xm.inc⟩) := hid (by rw [← hV1]; exact HVs.out _)
                  rw [hV1] at HHc
                  have HRv : Hid (hearV self v (l.take (k + 1)) = V1) := hid (by rw [HNv.out, (HSt.out _ (HNx.out.trans HNy.out)).1, hV1])
                  clear hV1
                  have HH := HHc
                  have HAw := HAwc
                  cases hsm : sameM ⟨1, xm.inc⟩ was with
                  | true =>
                    have HSm := hid hsm
                    have HRc : Hid (hearC self v (l.take (k + 1)) = C) := hid (by rw [HNc.out, (HSt.out _ (HNx.out.trans HNy.out)).2, hsm, if_pos rfl, List.append_nil])
                    clear hsm
                    go_wp2_with fail
                    clear hwB hwC hP2 hP1 c0 c1 c2 zs zs2 o0 o1 ofr d0 d1 dfr x0 x1 y0 y1 x2 x3 d2 d3 dfc
                    have heq := eq_M (⟨1, xm.inc⟩ : M) was
                    rw [HSm.out] at heq
                    obtain ⟨o0, o1, -⟩ := hr_cells HH.out HVn.out
                    obtain ⟨y0, y1⟩ := at_cells2 HAw.out
                    go_wp2_with fail
                    go_quiet (fail)
                    clear heq o0 o1 y0 y1
                    go_wp2_with fail
                    go_roundw
                    case rel => exact ⟨k + 1, by omega, by go_num, hid (by rw [HRv.out, HRc.out]; exact hr_kept HH.out (kept_drewN (kept_refl _) _))⟩
                    case measure => simp [intOf]; omega
                  | false =>
                    have HSm := hid hsm
                    have HRc : Hid (hearC self v (l.take (k + 1)) = C ++ [⟨(nd : Int), ⟨1, xm.inc⟩⟩]) := hid (by rw [HNc.out, (HSt.out _ (HNx.out.trans HNy.out)).2, hsm]; rfl)
                    clear hsm
                    go_wp2_with fail
                    clear hwB hwC hP2 hP1 c0 c1 c2 zs zs2 o0 o1 ofr d0 d1 dfr x0 x1 y0 y1 x2 x3 d2 d3 dfc
                    have heq := eq_M (⟨1, xm.inc⟩ : M) was
                    rw [HSm.out] at heq
                    obtain ⟨o0, o1, -⟩ := hr_cells HH.out HVn.out
                    obtain ⟨y0, y1⟩ := at_cells2 HAw.out
                    have HQ : Hid (∀ u, Kept wC u → Hr w B0 q n co V1 u9 C (u.alloc (.cells #[.int .u8 (nd : Int), .int .u8 1, .int .u32 xm.inc] 42)) ∧ Rg encN 3 (u.alloc (.cells #[.int .u8 (nd : Int), .int .u8 1, .int .u32 xm.inc] 42)) (.slice (some ⟨u.heap.size, 0, none⟩) 1 1) [⟨(nd : Int), (⟨1, xm.inc⟩ : M)⟩] ∧ B0 ≤ (u.alloc (.cells #[.int .u8 (nd : Int), .int .u8 1, .int .u32 xm.inc] 42)).heap.size) := hid (fun u ku => by
                      have hh := hr_kept (hr_kept HH.out ku) (kept_alloc (kept_refl u) (.cells #[.int .u8 (nd : Int), .int .u8 1, .int .u32 xm.inc] 42))
                      refine ⟨hh, rg_alone encN_ok (y := ⟨(nd : Int), (⟨1, xm.inc⟩ : M)⟩) (at_new u #[.int .u8 (nd : Int), .int .u8 1, .int .u32 xm.inc] 42), ?_⟩
                      have h1 := hh.kept.2
                      rw [hh.base] at h1
                      exact h1)
                    have HCell : Hid (∀ u, Kept wC u → u.cell? ⟨q, nd * 2, none⟩ = some (.int .u8 1) ∧ u.cell? ⟨q, nd * 2 + 1, none⟩ = some (.int .u32 xm.inc)) := hid (fun u ku => by
                      obtain ⟨h1, h2, -⟩ := hr_cells (hr_kept HH.out ku) HVn.out
                      exact ⟨h1, h2⟩)
                    go_wp2_with fail
                    go_quiet (fail)
                    clear heq o0 o1 y0 y1
                    rename_i nq
                    obtain ⟨hq1, hq2, hq3⟩ := HQ.out (World.drewN wC nq) (kept_drewN (kept_refl _) _)
                    have HQ1 := hid hq1
                    have HQ2 := hid hq2
                    have HQ3 := hid hq3
                    clear hq1 hq2 hq3
                    obtain ⟨o0, o1⟩ := HCell.out (World.drewN wC nq) (kept_drewN (kept_refl _) _)
                    go_wp2_with (at_builtin; go_must (refine wpList_gapp rfl (.tmp 102) (.tmp 109) rfl encN_ok tyN (by decide) B0 _ _ _ _ rfl HQ1.out.chg rfl HQ2.out (by have := HCl.out; simp; omega) HQ3.out ?_; intro v9 w9 hown9 hgrow9 hnil9))
                    have HH9 : Hid (Hr w B0 q n co V1 v9 (C ++ [⟨(nd : Int), (⟨1, xm.inc⟩ : M)⟩]) w9) := hid ⟨og_beside HQ1.out.out HQ1.out.chg (by decide) hgrow9, hown9, kept_gr HQ1.out.kept hgrow9 (fun j hj => by have := og_lt HQ1.out.chg hj; have := HQ1.out.base; omega), HQ1.out.base⟩
                    clear hown9 hgrow9 hnil9
                    go_roundw
                    case rel => exact ⟨k + 1, by omega, by go_num, hid (by rw [HRv.out, HRc.out]; exact HH9.out)⟩
                    case measure => simp [intOf]; omega
              · by_cases heq0 : xm.inc = was.inc
                · have hbe : (xm.inc == was.inc) = true := by simpa using heq0
                  by_cases hs1 : xm.st = 1
                  · have hbs : (xm.st != 1) = false := by simpa using hs1
                    have HRv : Hid (hearV self v (l.take (k + 1)) = V) := hid (by rw [HNv.out, (HSt.out was (HNx.out.trans (by unfold selfM; rw [if_neg (by omega)]))).1, HSelf.out])
                    have HRc : Hid (hearC self v (l.take (k + 1)) = C) := hid (by rw [HNc.out, (HSt.out was (HNx.out.trans (by unfold selfM; rw [if_neg (by omega)]))).2, (sameM_iff was was).2 rfl, if_pos rfl, List.append_nil])
                    have HSm : Hid (sameM was was = true) := hid ((sameM_iff was was).2 rfl)
                    have HH := HHb
                    have HAw := HAwb
                    have HVn := HWas
                    clear heq0 hs1
                    go_wp2_with fail
                    generalize (wr.alloc (.cells #[.int .u8 xm.st, .int .u32 xm.inc] 33)).alloc (.cells #[.int .u8 was.st, .int .u32 was.inc] 33) = wB at *
                    generalize wr.heap.size = P1 at *
                    generalize P1 + 1 = P2 at *
                    clear c0 c1 c2 zs zs2 o0 o1 ofr
                    have heq := eq_M was was
                    rw [HSm.out] at heq
                    obtain ⟨o0, o1, -⟩ := hr_cells HH.out HVn.out
                    obtain ⟨y0, y1⟩ := at_cells2 HAw.out
                    go_wp2_with fail
                    go_quiet (fail)
                    clear heq o0 o1 y0 y1
                    go_wp2_with fail
                    go_roundw
                    case rel => exact ⟨k + 1, by omega, by go_num, hid (by rw [HRv.out, HRc.out]; exact hr_kept HH.out (kept_drewN (kept_refl _) _))⟩
                    case measure => simp [intOf]; omega
                  · have hbs : (xm.st != 1) = true := by simpa using hs1
                    have HCd : Hid (was.inc < xm.inc ∨ (xm.inc = was.inc ∧ xm.st ≠ 1)) := hid (by exact .inr ⟨heq0, hs1⟩)
                    have HXi := hid HXo.out.2
                    clear heq0 hs1
                    obtain ⟨wB, hwB⟩ : ∃ wB, (wr.alloc (.cells #[.int .u8 xm.st, .int .u32 xm.inc] 33)).alloc (.cells #[.int .u8 was.st, .int .u32 was.inc] 33) = wB := ⟨_, rfl⟩
                    rw [hwB] at HHb HAxb HAwb
                    obtain ⟨P1, hP1⟩ : ∃ P1, wr.heap.size = P1 := ⟨_, rfl⟩
                    rw [hP1] at HAxb HP1 HAwb
                    obtain ⟨P2, hP2⟩ : ∃ P2, P1 + 1 = P2 := ⟨_, rfl⟩
                    rw [hP2] at HAwb
                    have hqP : q ≠ P2 := by have := HP1.out; omega
                    have hqQ : q ≠ P1 := by have := HP1.out; omega
                    have HHc := hid (hr_put2 HHb.out HWas.out ⟨1, xm.inc⟩)
                    have HAxc := hid (at_other (at_other HAxb.out (fun e => hqQ e.symm) (nd * 2) (.int .u8 1)) (fun e => hqQ e.symm) (nd * 2 + 1) (.int .u32 xm.inc))
                    have HAwc := hid (at_other (at_other HAwb.out (fun e => hqP e.symm) (nd * 2) (.int .u8 1)) (fun e => hqP e.symm) (nd * 2 + 1) (.int .u32 xm.inc))
                    obtain ⟨d0, d1, dfr⟩ := hr_cells HHb.out HWas.out
                    obtain ⟨x0, x1⟩ := at_cells2 HAxb.out
                    obtain ⟨y0, y1⟩ := at_cells2 HAwb.out
                    obtain ⟨wC, hwC⟩ : ∃ wC, (wB.setCell ⟨q, nd * 2, none⟩ (.int .u8 1)).setCell ⟨q, nd * 2 + 1, none⟩ (.int .u32 xm.inc) = wC := ⟨_, rfl⟩
                    simp only [] at HHc
                    rw [hwC] at HHc HAxc HAwc
                    obtain ⟨x2, x3⟩ := at_cells2 HAxc.out
                    obtain ⟨d2, d3, dfc⟩ := hr_cells HHc.out (HVs.out _)
                    by_cases hmx : xm.inc < 4294967295
                    · have hwi := (show IntKind.u32.wrap (xm.inc + 1) = xm.inc + 1 by rw [IntKind.wrap_u32]; have := HXi.out; omega)
                      have HHd := hid (hr_put1 HHc.out (HVs.out _) (xm.inc + 1))
                      simp only [List.set_set] at HHd
                      have HAwd := hid (at_other HAwc.out (fun e => hqP e.symm) (nd * 2 + 1) (.int .u32 (xm.inc + 1)))
                      obtain ⟨V1, hV1⟩ : ∃ V1, V.set nd ⟨1, xm.inc + 1⟩ = V1 := ⟨_, rfl⟩
                      have HNy : Hid (selfM xm was = ⟨1, xm.inc + 1⟩) := hid (by unfold selfM; rw [if_pos HCd.out, if_pos hmx])
                      have HSm : Hid (sameM ⟨1, xm.inc + 1⟩ was = false) := hid ((sameM_false _ _).2 (fun e => by have := congrArg M.inc e; simp only at this; have := HCd.out; omega))
                      have HRv : Hid (hearV self v (l.take (k + 1)) = V1) := hid (by rw [HNv.out, (HSt.out _ (HNx.out.trans HNy.out)).1, hV1])
                      have HRc : Hid (hearC self v (l.take (k + 1)) = C ++ [⟨(nd : Int), ⟨1, xm.inc + 1⟩⟩]) := hid (by rw [HNc.out, (HSt.out _ (HNx.out.trans HNy.out)).2, HSm.out]; rfl)
                      have HVn : Hid (V1[nd]? = some ⟨1, xm.inc + 1⟩) := hid (by rw [← hV1]; exact HVs.out _)
                      rw [hV1] at HHd
                      clear hV1
                      go_wp2_with fail
                      clear hwB hwC hP2 hP1 c0 c1 c2 zs zs2 o0 o1 ofr d0 d1 dfr x0 x1 y0 y1 x2 x3 d2 d3 dfc
                      generalize wC.setCell ⟨q, nd * 2 + 1, none⟩ (.int .u32 (xm.inc + 1)) = wD at *
                      have HH := HHd
                      have HAw := HAwd
                      have heq := eq_M (⟨1, xm.inc + 1⟩ : M) was
                      rw [HSm.out] at heq
                      obtain ⟨o0, o1, -⟩ := hr_cells HH.out HVn.out
                      obtain ⟨y0, y1⟩ := at_cells2 HAw.out
                      have HQ : Hid (∀ u, Kept wD u → Hr w B0 q n co V1 u9 C (u.alloc (.cells #[.int .u8 (nd : Int), .int .u8 1, .int .u32 (xm.inc + 1)] 42)) ∧ Rg encN 3 (u.alloc (.cells #[.int .u8 (nd : Int), .int .u8 1, .int .u32 (xm.inc + 1)] 42)) (.slice (some ⟨u.heap.size, 0, none⟩) 1 1) [⟨(nd : Int), (⟨1, xm.inc + 1⟩ : M)⟩] ∧ B0 ≤ (u.alloc (.cells #[.int .u8 (nd : Int), .int .u8 1, .int .u32 (xm.inc + 1)] 42)).heap.size) := hid (fun u ku => by
                        have hh := hr_kept (hr_kept HH.out ku) (kept_alloc (kept_refl u) (.cells #[.int .u8 (nd : Int), .int .u8 1, .int .u32 (xm.inc + 1)] 42))
                        refine ⟨hh, rg_alone encN_ok (y := ⟨(nd : Int), (⟨1, xm.inc + 1⟩ : M)⟩) (at_new u #[.int .u8 (nd : Int), .int .u8 1, .int .u32 (xm.inc + 1)] 42), ?_⟩
                        have h1 := hh.kept.2
                        rw [hh.base] at h1
                        exact h1)
                      have HCell : Hid (∀ u, Kept wD u → u.cell? ⟨q, nd * 2, none⟩ = some (.int .u8 1) ∧ u.cell? ⟨q, nd * 2 + 1, none⟩ = some (.int .u32 (xm.inc + 1))) := hid (fun u ku => by
                        obtain ⟨h1, h2, -⟩ := hr_cells (hr_kept HH.out ku) HVn.out
                        exact ⟨h1, h2⟩)
                      go_wp2_with fail
                      go_quiet (fail)
                      clear heq o0 o1 y0 y1
                      rename_i nq
                      obtain ⟨hq1, hq2, hq3⟩ := HQ.out (World.drewN wD nq) (kept_drewN (kept_refl _) _)
                      have HQ1 := hid hq1
                      have HQ2 := hid hq2
                      have HQ3 := hid hq3
                      clear hq1 hq2 hq3
                      obtain ⟨o0, o1⟩ := HCell.out (World.drewN wD nq) (kept_drewN (kept_refl _) _)
                      go_wp2_with (at_builtin; go_must (refine wpList_gapp rfl (.tmp 102) (.tmp 109) rfl encN_ok tyN (by decide) B0 _ _ _ _ rfl HQ1.out.chg rfl HQ2.out (by have := HCl.out; simp; omega) HQ3.out ?_; intro v9 w9 hown9 hgrow9 hnil9))
                      have HH9 : Hid (Hr w B0 q n co V1 v9 (C ++ [⟨(nd : Int), (⟨1, xm.inc + 1⟩ : M)⟩]) w9) := hid ⟨og_beside HQ1.out.out HQ1.out.chg (by decide) hgrow9, hown9, kept_gr HQ1.out.kept hgrow9 (fun j hj => by have := og_lt HQ1.out.chg hj; have := HQ1.out.base; omega), HQ1.out.base⟩
                      clear hown9 hgrow9 hnil9
                      go_roundw
                      case rel => exact ⟨k + 1, by omega, by go_num, hid (by rw [HRv.out, HRc.out]; exact HH9.out)⟩
                      case measure => simp [intOf]; omega
                    · have hmx2 : decide (xm.inc < 4294967295) = false := by simpa using hmx
                      have HNy : Hid (selfM xm was = ⟨1, xm.inc⟩) := hid (by unfold selfM; rw [if_pos HCd.out, if_neg hmx])
                      obtain ⟨V1, hV1⟩ : ∃ V1, V.set nd ⟨1, xm.inc⟩ = V1 := ⟨_, rfl⟩
                      have HVn : Hid (V1[nd]? = some ⟨1, xm.inc⟩) := hid (by rw [← hV1]; exact HVs.out _)
                      rw [hV1] at HHc
                      have HRv : Hid (hearV self v (l.take (k + 1)) = V1) := hid (by rw [HNv.out, (HSt.out _ (HNx.out.trans HNy.out)).1, hV1])
                      clear hV1
                      have HH := HHc
                      have HAw := HAwc
                      cases hsm : sameM ⟨1, xm.inc⟩ was with
                      | true =>
                        have HSm := hid hsm
                        have HRc : Hid (hearC self v (l.take (k + 1)) = C) := hid (by rw [HNc.out, (HSt.out _ (HNx.out.trans HNy.out)).2, hsm, if_pos rfl, List.append_nil])
                        clear hsm
                        go_wp2_with fail
                        clear hwB hwC hP2 hP1 c0 c1 c2 zs zs2 o0 o1 ofr d0 d1 dfr x0 x1 y0 y1 x2 x3 d2 d3 dfc
                        have heq := eq_M (⟨1, xm.inc⟩ : M) was
                        rw [HSm.out] at heq
                        obtain ⟨o0, o1, -⟩ := hr_cells HH.out HVn.out
                        obtain ⟨y0, y1⟩ := at_cells2 HAw.out
                        go_wp2_with fail
                        go_quiet (fail)
                        clear heq o0 o1 y0 y1
                        go_wp2_with fail
                        go_roundw
                        case rel => exact ⟨k + 1, by omega, by go_num, hid (by rw [HRv.out, HRc.out]; exact hr_kept HH.out (kept_drewN (kept_refl _) _))⟩
                        case measure => simp [intOf]; omega
                      | false =>
                        have HSm := hid hsm
                        have HRc : Hid (hearC self v (l.take (k + 1)) = C ++ [⟨(nd : Int), ⟨1, xm.inc⟩⟩]) := hid (by rw [HNc.out, (HSt.out _ (HNx.out.trans HNy.out)).2, hsm]; rfl)
                        clear hsm
                        go_wp2_with fail
                        clear hwB hwC hP2 hP1 c0 c1 c2 zs zs2 o0 o1 ofr d0 d1 dfr x0 x1 y0 y1 x2 x3 d2 d3 dfc
                        have heq := eq_M (⟨1, xm.inc⟩ : M) was
                        rw [HSm.out] at heq
                        obtain ⟨o0, o1, -⟩ := hr_cells HH.out HVn.out
                        obtain ⟨y0, y1⟩ := at_cells2 HAw.out
                        have HQ : Hid (∀ u, Kept wC u → Hr w B0 q n co V1 u9 C (u.alloc (.cells #[.int .u8 (nd : Int), .int .u8 1, .int .u32 xm.inc] 42)) ∧ Rg encN 3 (u.alloc (.cells #[.int .u8 (nd : Int), .int .u8 1, .int .u32 xm.inc] 42)) (.slice (some ⟨u.heap.size, 0, none⟩) 1 1) [⟨(nd : Int), (⟨1, xm.inc⟩ : M)⟩] ∧ B0 ≤ (u.alloc (.cells #[.int .u8 (nd : Int), .int .u8 1, .int .u32 xm.inc] 42)).heap.size) := hid (fun u ku => by
                          have hh := hr_kept (hr_kept HH.out ku) (kept_alloc (kept_refl u) (.cells #[.int .u8 (nd : Int), .int .u8 1, .int .u32 xm.inc] 42))
                          refine ⟨hh, rg_alone encN_ok (y := ⟨(nd : Int), (⟨1, xm.inc⟩ : M)⟩) (at_new u #[.int .u8 (nd : Int), .int .u8 1, .int .u32 xm.inc] 42), ?_⟩
                          have h1 := hh.kept.2
                          rw [hh.base] at h1
                          exact h1)
                        have HCell : Hid (∀ u, Kept wC u → u.cell? ⟨q, nd * 2, none⟩ = some (.int .u8 1) ∧ u.cell? ⟨q, nd * 2 + 1, none⟩ = some (.int .u32 xm.inc)) := hid (fun u ku => by
                          obtain ⟨h1, h2, -⟩ := hr_cells (hr_kept HH.out ku) HVn.out
                          exact ⟨h1, h2⟩)
                        go_wp2_with fail
                        go_quiet (fail)
                        clear heq o0 o1 y0 y1
                        rename_i nq
                        obtain ⟨hq1, hq2, hq3⟩ := HQ.out (World.drewN wC nq) (kept_drewN (kept_refl _) _)
                        have HQ1 := hid hq1
                        have HQ2 := hid hq2
                        have HQ3 := hid hq3
                        clear hq1 hq2 hq3
                        obtain ⟨o0, o1⟩ := HCell.out (World.drewN wC nq) (kept_drewN (kept_refl _) _)
                        go_wp2_with (at_builtin; go_must (refine wpList_gapp rfl (.tmp 102) (.tmp 109) rfl encN_ok tyN (by decide) B0 _ _ _ _ rfl HQ1.out.chg rfl HQ2.out (by have := HCl.out; simp; omega) HQ3.out ?_; intro v9 w9 hown9 hgrow9 hnil9))
                        have HH9 : Hid (Hr w B0 q n co V1 v9 (C ++ [⟨(nd : Int), (⟨1, xm.inc⟩ : M)⟩]) w9) := hid ⟨og_beside HQ1.out.out HQ1.out.chg (by decide) hgrow9, hown9, kept_gr HQ1.out.kept hgrow9 (fun j hj => by have := og_lt HQ1.out.chg hj; have := HQ1.out.base; omega), HQ1.out.base⟩
                        clear hown9 hgrow9 hnil9
                        go_roundw
                        case rel => exact ⟨k + 1, by omega, by go_num, hid (by rw [HRv.out, HRc.out]; exact HH9.out)⟩
                        case measure => simp [intOf]; omega
                · have hbe : (xm.inc == was.inc) = false := by simpa using heq0
                  have HRv : Hid (hearV self v (l.take (k + 1)) = V) := hid (by rw [HNv.out, (HSt.out was (HNx.out.trans (by unfold selfM; rw [if_neg (by omega)]))).1, HSelf.out])
                  have HRc : Hid (hearC self v (l.take (k + 1)) = C) := hid (by rw [HNc.out, (HSt.out was (HNx.out.trans (by unfold selfM; rw [if_neg (by omega)]))).2, (sameM_iff was was).2 rfl, if_pos rfl, List.append_nil])
                  have HSm : Hid (sameM was was = true) := hid ((sameM_iff was was).2 rfl)
                  have HH := HHb
                  have HAw := HAwb
                  have HVn := HWas
                  clear heq0
                  go_wp2_with fail
                  generalize (wr.alloc (.cells #[.int .u8 xm.st, .int .u32 xm.inc] 33)).alloc (.cells #[.int .u8 was.st, .int .u32 was.inc] 33) = wB at *
                  generalize wr.heap.size = P1 at *
                  generalize P1 + 1 = P2 at *
                  clear c0 c1 c2 zs zs2 o0 o1 ofr
                  have heq := eq_M was was
                  rw [HSm.out] at heq
                  obtain ⟨o0, o1, -⟩ := hr_cells HH.out HVn.out
                  obtain ⟨y0, y1⟩ := at_cells2 HAw.out
                  go_wp2_with fail
                  go_quiet (fail)
                  clear heq o0 o1 y0 y1
                  go_wp2_with fail
                  go_roundw
                  case rel => exact ⟨k + 1, by omega, by go_num, hid (by rw [HRv.out, HRc.out]; exact hr_kept HH.out (kept_drewN (kept_refl _) _))⟩
                  case measure => simp [intOf]; omega
            · have hb1 : ((nd : Int) == self) = false := by simpa using es
              have HNx : Hid (nextM self ⟨(nd : Int), xm⟩ was = if nwr xm was then xm else was) := hid (by unfold nextM; rw [if_neg es])
              clear es
              obtain ⟨wB, hwB⟩ : ∃ wB, (wr.alloc (.cells #[.int .u8 xm.st, .int .u32 xm.inc] 33)).alloc (.cells #[.int .u8 was.st, .int .u32 was.inc] 33) = wB := ⟨_, rfl⟩
              rw [hwB] at HHb HAxb HAwb
              obtain ⟨P1, hP1⟩ : ∃ P1, wr.heap.size = P1 := ⟨_, rfl⟩
              rw [hP1] at HAxb HP1 HAwb
              obtain ⟨P2, hP2⟩ : ∃ P2, P1 + 1 = P2 := ⟨_, rfl⟩
              rw [hP2] at HAwb
              have hqP : q ≠ P2 := by have := HP1.out; omega
              obtain ⟨x0, x1⟩ := at_cells2 HAxb.out
              obtain ⟨y0, y1⟩ := at_cells2 HAwb.out
              go_wp2_with fail
              clear hwB hP2 hP1 c0 c1 c2 zs zs2 o0 o1 ofr x0 x1 y0 y1
              refine (rnewer_any xm was wB).mono ?_
              rintro e wC ⟨rfl, kC⟩
              have HHc := hid (hr_kept HHb.out kC)
              have HAxc := hid (at_kept HAxb.out kC)
              have HAwc := hid (at_kept HAwb.out kC)
              clear kC
              cases hnw : nwr xm was with
              | false =>
                have HRv : Hid (hearV self v (l.take (k + 1)) = V) := hid (by rw [HNv.out, (HSt.out was (HNx.out.trans (by rw [hnw]; rfl))).1, HSelf.out])
                have HRc : Hid (hearC self v (l.take (k + 1)) = C) := hid (by rw [HNc.out, (HSt.out was (HNx.out.trans (by rw [hnw]; rfl))).2, (sameM_iff was was).2 rfl, if_pos rfl, List.append_nil])
                have HSm : Hid (sameM was was = true) := hid ((sameM_iff was was).2 rfl)
                have HH := HHc
                have HAw := HAwc
                have HVn := HWas
                go_wp2_with fail
                have heq := eq_M was was
                rw [HSm.out] at heq
                obtain ⟨o0, o1, -⟩ := hr_cells HH.out HVn.out
                obtain ⟨y0, y1⟩ := at_cells2 HAw.out
                go_wp2_with fail
                go_quiet (fail)
                clear heq o0 o1 y0 y1
                go_wp2_with fail
                go_roundw
                case rel => exact ⟨k + 1, by omega, by go_num, hid (by rw [HRv.out, HRc.out]; exact hr_kept HH.out (kept_drewN (kept_refl _) _))⟩
                case measure => simp [intOf]; omega
              | true =>
                obtain ⟨V1, hV1⟩ : ∃ V1, V.set nd xm = V1 := ⟨_, rfl⟩
                have HRv : Hid (hearV self v (l.take (k + 1)) = V1) := hid (by rw [HNv.out, (HSt.out xm (HNx.out.trans (by rw [hnw]; rfl))).1, hV1])
                have HSm : Hid (sameM xm was = false) := hid ((sameM_false _ _).2 (fun e => by rw [e] at hnw; rw [(nwr_false was was).2 (nr_irrefl was)] at hnw; cases hnw))
                have HRc : Hid (hearC self v (l.take (k + 1)) = C ++ [⟨(nd : Int), xm⟩]) := hid (by rw [HNc.out, (HSt.out xm (HNx.out.trans (by rw [hnw]; rfl))).2, HSm.out]; rfl)
                have HVn : Hid (V1[nd]? = some xm) := hid (by rw [← hV1]; exact HVs.out _)
                have HHd := hid (hr_put2 HHc.out HWas.out xm)
                rw [hV1] at HHd
                have HAwd := hid (at_other (at_other HAwc.out (fun e => hqP e.symm) (nd * 2) (.int .u8 xm.st)) (fun e => hqP e.symm) (nd * 2 + 1) (.int .u32 xm.inc))
                obtain ⟨d0, d1, dfr⟩ := hr_cells HHc.out HWas.out
                obtain ⟨x0, x1⟩ := at_cells2 HAxc.out
                clear hV1 hnw
                go_wp2_with fail
                clear d0 d1 dfr x0 x1
                generalize (wC.setCell ⟨q, nd * 2, none⟩ (.int .u8 xm.st)).setCell ⟨q, nd * 2 + 1, none⟩ (.int .u32 xm.inc) = wD at *
                have HH := HHd
                have HAw := HAwd
                have heq := eq_M xm was
                rw [HSm.out] at heq
                obtain ⟨o0, o1, -⟩ := hr_cells HH.out HVn.out
                obtain ⟨y0, y1⟩ := at_cells2 HAw.out
                have HQ : Hid (∀ u, Kept wD u → Hr w B0 q n co V1 u9 C (u.alloc (.cells #[.int .u8 (nd : Int), .int .u8 xm.st, .int .u32 xm.inc] 42)) ∧ Rg encN 3 (u.alloc (.cells #[.int .u8 (nd : Int), .int .u8 xm.st, .int .u32 xm.inc] 42)) (.slice (some ⟨u.heap.size, 0, none⟩) 1 1) [⟨(nd : Int), xm⟩] ∧ B0 ≤ (u.alloc (.cells #[.int .u8 (nd : Int), .int .u8 xm.st, .int .u32 xm.inc] 42)).heap.size) := hid (fun u ku => by
                  have hh := hr_kept (hr_kept HH.out ku) (kept_alloc (kept_refl u) (.cells #[.int .u8 (nd : Int), .int .u8 xm.st, .int .u32 xm.inc] 42))
                  refine ⟨hh, rg_alone encN_ok (y := ⟨(nd : Int), xm⟩) (at_new u #[.int .u8 (nd : Int), .int .u8 xm.st, .int .u32 xm.inc] 42), ?_⟩
                  have h1 := hh.kept.2
                  rw [hh.base] at h1
                  exact h1)
                have HCell : Hid (∀ u, Kept wD u → u.cell? ⟨q, nd * 2, none⟩ = some (.int .u8 xm.st) ∧ u.cell? ⟨q, nd * 2 + 1, none⟩ = some (.int .u32 xm.inc)) := hid (fun u ku => by
                  obtain ⟨h1, h2, -⟩ := hr_cells (hr_kept HH.out ku) HVn.out
                  exact ⟨h1, h2⟩)
                go_wp2_with fail
                go_quiet (fail)
                clear heq o0 o1 y0 y1
                rename_i nq
                obtain ⟨hq1, hq2, hq3⟩ := HQ.out (World.drewN wD nq) (kept_drewN (kept_refl _) _)
                have HQ1 := hid hq1
                have HQ2 := hid hq2
                have HQ3 := hid hq3
                clear hq1 hq2 hq3
                obtain ⟨o0, o1⟩ := HCell.out (World.drewN wD nq) (kept_drewN (kept_refl _) _)
                go_wp2_with (at_builtin; go_must (refine wpList_gapp rfl (.tmp 102) (.tmp 109) rfl encN_ok tyN (by decide) B0 _ _ _ _ rfl HQ1.out.chg rfl HQ2.out (by have := HCl.out; simp; omega) HQ3.out ?_; intro v9 w9 hown9 hgrow9 hnil9))
                have HH9 : Hid (Hr w B0 q n co V1 v9 (C ++ [⟨(nd : Int), xm⟩]) w9) := hid ⟨og_beside HQ1.out.out HQ1.out.chg (by decide) hgrow9, hown9, kept_gr HQ1.out.kept hgrow9 (fun j hj => by have := og_lt HQ1.out.chg hj; have := HQ1.out.base; omega), HQ1.out.base⟩
                clear hown9 hgrow9 hnil9
                go_roundw
                case rel => exact ⟨k + 1, by omega, by go_num, hid (by rw [HRv.out, HRc.out]; exact HH9.out)⟩
                case measure => simp [intOf]; omega
      · have hin2 : (n : Int) ≤ (nd : Int) := by omega
        have HRv : Hid (stepV self V ⟨(nd : Int), xm⟩ = V ∧ stepC self V ⟨(nd : Int), xm⟩ = []) := hid (by
          have hno : V[nd]? = none := List.getElem?_eq_none (by rw [HVk.out]; omega)
          unfold stepV stepC
          simp [hno])
        go_wp2_with fail
        go_roundw
        case rel => exact ⟨k + 1, by omega, by go_num, hid (by rw [HNv.out, HNc.out, HRv.out.1, HRv.out.2, List.append_nil]; exact HHa.out)⟩
        case measure => simp [intOf]; omega
    · have he : k = ln := by omega
      subst he
      rw [HT.out] at HHr
      go_wp2_with fail
      go_ret2
      exact HEnd.out _ _ _ _ _ _ _ rfl HHr.out
end Go.Proofs.Ytdcokccfannfmaa
