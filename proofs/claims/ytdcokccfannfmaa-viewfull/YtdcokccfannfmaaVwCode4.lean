/- The contract of the program's Hear. Views have at most 64 members, news at most 2000; members and news are as they can be. -/
import Derived.Test.YtdcokccfannfmaaVwCode1
import Derived.Test.YtdcokccfannfmaaVwCode2
namespace Go.Proofs.Ytdcokccfannfmaa
open Go.ChangeShapes Go.WideShapes Go.ChangeAt Go.RowKit
set_option linter.unusedVariables false
set_option linter.unusedSimpArgs false
set_option maxRecDepth 100000

/- What stands in a round: the view, which may be nil, and the row of changes. -/
structure Hc (w : World) (B : Nat) (a : Option Addr) (n co : Nat) (V : List M) (cv : Value) (C : List Nw) (wr : World) : Prop where
  out : Og encM 2 33 wr B (.slice a n co) V
  chg : Og encN 3 42 wr B cv C
  kept : Kept w wr
  base : w.heap.size = B
theorem hc_kept {w wr w' : World} {B n co : Nat} {a : Option Addr} {V : List M} {cv : Value} {C : List Nw} (h : Hc w B a n co V cv C wr) (k : Kept wr w') : Hc w B a n co V cv C w' := ⟨og_stays h.out k, og_stays h.chg k, kept_trans h.kept k, h.base⟩
theorem hc_some {w wr : World} {B n co : Nat} {a : Option Addr} {V : List M} {cv : Value} {C : List Nw} (h : Hc w B a n co V cv C wr) (hp : 0 < n) : ∃ q, a = some ⟨q, 0, none⟩ := by
  rcases h.out.2 with ⟨e, _⟩ | ⟨g, cap, cur, e, _⟩
  · injection e with e1 e2 e3
    omega
  · injection e with e1 e2 e3
    exact ⟨g, e1⟩
theorem hr_box {w wr : World} {B q n co : Nat} {V : List M} {cv : Value} {C : List Nw} (h : Hr w B q n co V cv C wr) {P : Nat} {cs : Array Value} (hP : P ≠ q) (hB : B ≤ P) (hA : At wr P cs 33) (o : Nat) (u : Value) : Hr w B q n co V cv C (wr.setCell ⟨P, o, none⟩ u) := by
  refine ⟨og_block h.out (fun g cur hg ha => Below.heap_setCell _ _ _ _ (fun e => ?_)), og_aside h.chg hA (by decide) _ _, kept_set h.kept (by rw [h.base]; exact hB) _ _, h.base⟩
  injection hg with hg
  subst hg
  exact hP e.symm
/- The round's three boxes beside that. -/
structure Hb (w : World) (B q n co : Nat) (V : List M) (cv : Value) (C : List Nw) (x : Nw) (was hv : M) (P0 P1 P2 : Nat) (wr : World) : Prop where
  hr : Hr w B q n co V cv C wr
  a0 : At wr P0 #[.int .u8 x.node, .int .u8 x.m.st, .int .u32 x.m.inc] 42
  a1 : At wr P1 #[.int .u8 was.st, .int .u32 was.inc] 33
  a2 : At wr P2 #[.int .u8 hv.st, .int .u32 hv.inc] 33
  n1 : P1 ≠ q
  n2 : P2 ≠ q
  n3 : P1 ≠ P2
  n4 : P0 ≠ P2
  b2 : B ≤ P2
section
variable {w wr w' : World} {B q n co : Nat} {V : List M} {cv : Value} {C : List Nw} {x : Nw} {was hv : M} {P0 P1 P2 : Nat}
theorem hb_kept (h : Hb w B q n co V cv C x was hv P0 P1 P2 wr) (k : Kept wr w') : Hb w B q n co V cv C x was hv P0 P1 P2 w' := ⟨hr_kept h.hr k, at_kept h.a0 k, at_kept h.a1 k, at_kept h.a2 k, h.n1, h.n2, h.n3, h.n4, h.b2⟩
theorem hb_put (h : Hb w B q n co V cv C x was hv P0 P1 P2 wr) (m : M) : Hb w B q n co V cv C x was m P0 P1 P2 ((wr.setCell ⟨P2, 0, none⟩ (.int .u8 m.st)).setCell ⟨P2, 1, none⟩ (.int .u32 m.inc)) := by
  have h2 := at_set h.a2 0 (.int .u8 m.st)
  have h3 := at_set h2 1 (.int .u32 m.inc)
  exact ⟨hr_box (hr_box h.hr h.n2 h.b2 h.a2 _ _) h.n2 h.b2 h2 _ _, at_other (at_other h.a0 h.n4 _ _) h.n4 _ _, at_other (at_other h.a1 h.n3 _ _) h.n3 _ _, h3, h.n1, h.n2, h.n3, h.n4, h.b2⟩
theorem hb_store (h : Hb w B q n co V cv C x was hv P0 P1 P2 wr) {i : Nat} {m0 : M} (hm : V[i]? = some m0) (m : M) : Hr w B q n co (V.set i m) cv C ((wr.setCell ⟨q, i * 2, none⟩ (.int .u8 m.st)).setCell ⟨q, i * 2 + 1, none⟩ (.int .u32 m.inc)) ∧ (P0 ≠ q → At ((wr.setCell ⟨q, i * 2, none⟩ (.int .u8 m.st)).setCell ⟨q, i * 2 + 1, none⟩ (.int .u32 m.inc)) P0 #[.int .u8 x.node, .int .u8 x.m.st, .int .u32 x.m.inc] 42) ∧ At ((wr.setCell ⟨q, i * 2, none⟩ (.int .u8 m.st)).setCell ⟨q, i * 2 + 1, none⟩ (.int .u32 m.inc)) P2 #[.int .u8 hv.st, .int .u32 hv.inc] 33 :=
  ⟨hr_put2 h.hr hm m, fun e => at_other (at_other h.a0 e _ _) e _ _, at_other (at_other h.a2 h.n2 _ _) h.n2 _ _⟩
theorem hb_ne0 (h : Hb w B q n co V cv C x was hv P0 P1 P2 wr) : P0 ≠ q := by
  obtain ⟨cs, ha⟩ := og_type h.hr.out
  exact at_ne h.a0 ha (by decide)
end
set_option maxHeartbeats 12800000 in
theorem hear_any (self : Int) (v : List M) (l : List Nw) (hv : v.length ≤ 64) (hl : l.length ≤ 2000) (hm : ∀ m ∈ v, okM m) (hx : ∀ x ∈ l, okN x) (vv lv : Value) (w : World) (h : Rg encM 2 w vv v) (hn : Rg encN 3 w lv l) : Calls Try.prog 11 #[vv, .int .u8 self, lv] w (HearC self v l w) := by
  have HL := hid hn
  have HOkL := hid hx
  have HCln := hid (clone_is v (by omega) vv w h)
  obtain ⟨b, capb, rfl, -, -, -, -⟩ := hn
  have HG : Hid (∀ k, k < l.length → ∃ y, l[k]? = some y) := hid (fun k hk => ⟨l[k], List.getElem?_eq_getElem hk⟩)
  have HP : Hid (0 < l.length → ∃ g o, b = some ⟨g, o, none⟩) := hid (fun hp => by
    obtain ⟨g, o, c, e⟩ := rg_pos HL.out hp
    injection e with e1
    exact ⟨g, o, e1⟩)
  have HT : Hid (l.take l.length = l) := hid List.take_length
  have HCle : Hid (∀ k, (hearC self v (l.take k)).length ≤ 2000) := hid (fun k => by
    have := hearC_len (self := self) (l.take k) v
    rw [List.length_take] at this
    omega)
  have HVle : Hid (∀ k, (hearV self v (l.take k)).length = v.length) := hid (fun k => hearV_len _ _)
  have HEnd : Hid (∀ v1 v2 u B a n co, v1 = .slice a n co → Hc w B a n co (hearV self v l) v2 (hearC self v l) u → HearC self v l w (.returned (.tuple #[v1, v2])) u) := hid (fun v1 v2 u B a n co e h => ⟨v1, v2, rfl, by rw [e]; exact rg_own encM_ok h.out, rg_own encN_ok h.chg, h.kept⟩)
  have HVl : Hid (v.length ≤ 64) := hid hv
  obtain ⟨ln, hln⟩ : ∃ ln, l.length = ln := ⟨_, rfl⟩
  rw [hln] at HG HP HT HL hl ⊢
  clear hln hv hm hx h
  go_enter Try.func11, Try.ntmps11
  go_wp2_with fail
  refine HCln.out.mono ?_
  rintro e w1 ⟨v1, rfl, o1, k1⟩
  obtain ⟨a, co, hv1, hco, -⟩ := og_is encM_ok o1
  subst hv1
  clear HCln
  have HH0 : Hid (Hc w w.heap.size a v.length co v (.slice none 0 0) [] w1) := hid ⟨o1, og_nil encN 3 42 w1 _, k1, rfl⟩
  clear o1 k1 hco
  obtain ⟨n, hnn⟩ : ∃ n, v.length = n := ⟨_, rfl⟩
  have HNn : Hid (n ≤ 64) := hid (by have := HVl.out; omega)
  rw [hnn] at HH0 HVle ⊢
  clear hnn
  go_wp2_with fail
  generalize hB0 : w.heap.size = B0 at *
  clear hB0
  go_loopw [8, 17] (fun cv j wr => ∃ k : Nat, k ≤ ln ∧ j = .int .i64 (k : Int) ∧ Hid (Hc w B0 a n co (hearV self v (l.take k)) cv (hearC self v (l.take k)) wr)) (fun _ j _ => ln - (intOf j).toNat)
  case atStart => exact ⟨0, Nat.zero_le _, rfl, HH0⟩
  case round =>
    obtain ⟨k, hk, rfl, HHr⟩ := hrel
    clear HH0
    by_cases hlt : k < ln
    · obtain ⟨x, hx⟩ := HG.out k hlt
      obtain ⟨g, o, rfl⟩ := HP.out (by omega)
      have hxo := HOkL.out x (List.mem_of_getElem? hx)
      obtain ⟨nd, xm, hxe, hnd⟩ : ∃ (nd : Nat) (xm : M), x = ⟨(nd : Int), xm⟩ ∧ nd < 256 := by
        obtain ⟨⟨h1, h2⟩, _⟩ := hxo
        exact ⟨x.node.toNat, x.m, by cases x; simp only at h1 h2 ⊢; congr 1; omega, by omega⟩
      have HNv : Hid (hearV self v (l.take (k + 1)) = stepV self (hearV self v (l.take k)) x) := hid (by rw [take_next hx, hearV_snoc])
      have HNc : Hid (hearC self v (l.take (k + 1)) = hearC self v (l.take k) ++ stepC self (hearV self v (l.take k)) x) := hid (by rw [take_next hx, hearC_snoc])
      obtain ⟨c0, c1, c2⟩ := rg_N (rg_kept encN_ok HL.out HHr.out.kept) hx
      subst hxe
      have HXo : Hid (okM xm) := hid hxo.2
      have HCl := hid (HCle.out k)
      have HVk := hid (HVle.out k)
      clear hx hxo
      generalize hearV self v (l.take k) = V at *
      generalize hearC self v (l.take k) = C at *
      have hw := (show wrap64 (nd : Int) = (nd : Int) by unfold wrap64; omega)
      have zs := zeroN wr
      have HHa := hid (hc_kept HHr.out (kept_alloc (kept_refl wr) (.cells #[.int .u8 (nd : Int), .int .u8 xm.st, .int .u32 xm.inc] 42)))
      by_cases hin : nd < n
      · have hin2 : ¬ (n : Int) ≤ (nd : Int) := by omega
        obtain ⟨was, hwas⟩ : ∃ was, V[nd]? = some was := ⟨_, List.getElem?_eq_getElem (by rw [HVk.out]; exact hin)⟩
        go_upto_region 6 with fail
        clear zs c0 c1 c2
        have HAx := hid (at_new wr #[.int .u8 (nd : Int), .int .u8 xm.st, .int .u32 xm.inc] 42)
        generalize hwA : wr.alloc (.cells #[.int .u8 (nd : Int), .int .u8 xm.st, .int .u32 xm.inc] 42) = wA at *
        clear hwA
        have HP1 : Hid (wr.heap.size < wA.heap.size) := hid (at_lt HAx.out)
        generalize wr.heap.size = P0 at *
        clear HHr
        obtain ⟨x0, x1, x2, -⟩ := at_cells3 HAx.out
        have HWas := hid hwas
        cases hvt : val xm with
        | false =>
          have HRv : Hid (stepV self V ⟨(nd : Int), xm⟩ = V ∧ stepC self V ⟨(nd : Int), xm⟩ = []) := hid (by
            unfold stepV stepC
            simp [hwas, hvt])
          clear hwas
          go_wp2_with fail
          refine (may_is xm wA).mono ?_
          rintro e wz ⟨rfl, hz⟩
          have hz2 : wA = wz := hz.symm
          clear hz
          subst hz2
          rw [hvt]
          go_wp2_with fail
          go_roundw
          case rel => exact ⟨k + 1, by omega, by go_num, hid (by rw [HNv.out, HNc.out, HRv.out.1, HRv.out.2, List.append_nil]; exact HHa.out)⟩
          case measure => simp [intOf]; omega
        | true =>
          have HSt : Hid (∀ nx, nextM self ⟨(nd : Int), xm⟩ was = nx → stepV self V ⟨(nd : Int), xm⟩ = V.set nd nx ∧ stepC self V ⟨(nd : Int), xm⟩ = if sameM nx was then [] else [⟨(nd : Int), nx⟩]) := hid (fun nx e => by
            unfold stepV stepC
            simp only [Int.toNat_natCast, hwas, hvt, e]
            cases sameM nx was <;> simp)
          have HSelf : Hid (V.set nd was = V) := hid (by
            obtain ⟨h1, h2⟩ := List.getElem?_eq_some_iff.1 hwas
            rw [← h2]
            exact List.set_getElem_self h1)
          obtain ⟨q, rfl⟩ := hc_some HHa.out (by omega)
          have HH : Hid (Hr w B0 q n co V _ C wA) := hid ⟨HHa.out.out, HHa.out.chg, HHa.out.kept, HHa.out.base⟩
          obtain ⟨o0, o1, -⟩ := hr_cells HH.out hwas
          have zs := zeroM wA
          have HHb := hid (hr_kept HH.out (kept_alloc (kept_refl wA) (.cells #[.int .u8 was.st, .int .u32 was.inc] 33)))
          have HAxb := hid (at_alloc HAx.out (.cells #[.int .u8 was.st, .int .u32 was.inc] 33))
          have HAwb := hid (at_new wA #[.int .u8 was.st, .int .u32 was.inc] 33)
          have HPq : Hid (wA.heap.size ≠ q) := hid (by have := hr_lt HH.out; omega)
          have HB1 : Hid (B0 ≤ wA.heap.size) := hid (by have h1 := HH.out.kept.2; rw [HH.out.base] at h1; exact h1)
          clear hwas
          go_wp2_with fail
          refine (may_is xm wA).mono ?_
          rintro e wz ⟨rfl, hz⟩
          have hz2 : wA = wz := hz.symm
          clear hz
          subst hz2
          rw [hvt]
          clear hvt
          obtain ⟨s0, s1, s2, -⟩ := at_cells3 HAxb.out
          go_upto_region 8 with fail
          clear o0 o1 zs x0 x1 x2 HH HHa HAx
          generalize hwB : wA.alloc (.cells #[.int .u8 was.st, .int .u32 was.inc] 33) = wB at *
          clear hwB
          have HP2 : Hid (wA.heap.size < wB.heap.size) := hid (at_lt HAwb.out)
          generalize wA.heap.size = P1 at *
          obtain ⟨t0, t1⟩ := at_cells2 HAwb.out
          go_wp2_with fail
          refine (believed_is was xm wB).mono ?_
          rintro e wC ⟨rfl, kC⟩
          have HB : Hid (Hb w B0 q n co V _ C ⟨(nd : Int), xm⟩ was (belM xm was) P0 P1 wC.heap.size (wC.alloc (.cells #[.int .u8 (belM xm was).st, .int .u32 (belM xm was).inc] 33))) := hid ⟨hr_kept (hr_kept HHb.out kC) (kept_alloc (kept_refl wC) _), at_alloc (at_kept HAxb.out kC) _, at_alloc (at_kept HAwb.out kC) _, at_new wC _ 33, HPq.out, by have h1 := kC.2; have h2 := hr_lt HHb.out; omega, by have h1 := kC.2; have h2 := HP2.out; omega, by have h1 := kC.2; have h2 := HP2.out; have h3 := HP1.out; omega, by have h1 := kC.2; have h2 := HP2.out; have h3 := HB1.out; omega⟩
          have zs := zeroM wC
          clear s0 s1 s2 t0 t1 kC HHb HAxb HAwb HPq HB1 HP1 HP2
          go_upto_region 9 with fail
          generalize hwD : wC.alloc (.cells #[.int .u8 (belM xm was).st, .int .u32 (belM xm was).inc] 33) = wD at *
          generalize wC.heap.size = P2 at *
          clear hwD zs
          obtain ⟨x0, x1, x2, -⟩ := at_cells3 HB.out.a0
          by_cases es : (nd : Int) = self
          · have hb1 : ((nd : Int) == self) = true := by simpa using es
            have HNx : Hid (nextM self ⟨(nd : Int), xm⟩ was = selfM xm was) := hid (by unfold nextM; rw [if_pos es])
            clear es
            obtain ⟨y0, y1⟩ := at_cells2 HB.out.a1
            go_wp2_with fail
            refine (answered_is was xm wD HXo.out).mono ?_
            rintro e wE ⟨rfl, kE⟩
            have HBe := hid (hb_kept HB.out kE)
            have HBc := hid (hb_put HBe.out (selfM xm was))
            obtain ⟨z0, z1⟩ := at_cells2 HBe.out.a2
            have zf := at_frozen HBe.out.a2
            clear kE HB x0 x1 x2 y0 y1
            go_upto_region 11 with fail
            clear z0 z1 zf HBe
            generalize selfM xm was = nx at *
            generalize (wE.setCell ⟨P2, 0, none⟩ (.int .u8 nx.st)).setCell ⟨P2, 1, none⟩ (.int .u32 nx.inc) = wC at *
            cases hsm : sameM nx was with
            | true =>
              have HRv : Hid (hearV self v (l.take (k + 1)) = V) := hid (by rw [HNv.out, (HSt.out nx HNx.out).1, (sameM_iff nx was).1 hsm, HSelf.out])
              have HRc : Hid (hearC self v (l.take (k + 1)) = C) := hid (by rw [HNc.out, (HSt.out nx HNx.out).2, hsm, if_pos rfl, List.append_nil])
              have heq := eq_M nx was
              rw [hsm] at heq
              obtain ⟨y0, y1⟩ := at_cells2 HBc.out.a1
              obtain ⟨z0, z1⟩ := at_cells2 HBc.out.a2
              clear hsm
              go_wp2_with fail
              go_roundw
              case rel => exact ⟨k + 1, by omega, by go_num, hid (by rw [HRv.out, HRc.out]; exact ⟨HBc.out.hr.out, HBc.out.hr.chg, HBc.out.hr.kept, HBc.out.hr.base⟩)⟩
              case measure => simp [intOf]; omega
            | false =>
              obtain ⟨V1, hV1⟩ : ∃ V1, V.set nd nx = V1 := ⟨_, rfl⟩
              have HRv : Hid (hearV self v (l.take (k + 1)) = V1) := hid (by rw [HNv.out, (HSt.out nx HNx.out).1, hV1])
              have HRc : Hid (hearC self v (l.take (k + 1)) = C ++ [⟨(nd : Int), nx⟩]) := hid (by rw [HNc.out, (HSt.out nx HNx.out).2, hsm]; rfl)
              have heq := eq_M nx was
              rw [hsm] at heq
              obtain ⟨x0, x1, x2, -⟩ := at_cells3 HBc.out.a0
              obtain ⟨y0, y1⟩ := at_cells2 HBc.out.a1
              obtain ⟨z0, z1⟩ := at_cells2 HBc.out.a2
              obtain ⟨d0, d1, df⟩ := hr_cells HBc.out.hr HWas.out
              obtain ⟨hD, hD0, hD2⟩ := hb_store HBc.out HWas.out nx
              have HD0 := hid (hD0 (hb_ne0 HBc.out))
              have HD2 := hid hD2
              rw [hV1] at hD
              have HD := hid hD
              clear hsm hV1 hD hD0 hD2
              go_upto_region 13 with fail
              clear heq x0 x1 x2 y0 y1 z0 z1 d0 d1 df
              generalize (wC.setCell ⟨q, nd * 2, none⟩ (.int .u8 nx.st)).setCell ⟨q, nd * 2 + 1, none⟩ (.int .u32 nx.inc) = wD at *
              obtain ⟨x0, x1, x2, -⟩ := at_cells3 HD0.out
              obtain ⟨z0, z1⟩ := at_cells2 HD2.out
              have HE := hid (hr_kept HD.out (kept_alloc (kept_refl wD) (.cells #[.int .u8 (nd : Int), .int .u8 nx.st, .int .u32 nx.inc] 42)))
              have HAl := hid (rg_alone encN_ok (y := ⟨(nd : Int), nx⟩) (at_new wD #[.int .u8 (nd : Int), .int .u8 nx.st, .int .u32 nx.inc] 42))
              have HBw : Hid (B0 ≤ (wD.alloc (.cells #[.int .u8 (nd : Int), .int .u8 nx.st, .int .u32 nx.inc] 42)).heap.size) := hid (by have h1 := HE.out.kept.2; rw [HE.out.base] at h1; exact h1)
              go_wp2_with (at_builtin; go_must (refine wpList_gapp rfl (.tmp 59) (.tmp 64) rfl encN_ok tyN (by decide) B0 _ _ _ _ rfl HE.out.chg rfl HAl.out (by have := HCl.out; simp; omega) HBw.out ?_; intro v9 w9 hown9 hgrow9 hnil9))
              have HH9 : Hid (Hc w B0 (some ⟨q, 0, none⟩) n co V1 v9 (C ++ [⟨(nd : Int), nx⟩]) w9) := hid ⟨og_beside HE.out.out HE.out.chg (by decide) hgrow9, hown9, kept_gr HE.out.kept hgrow9 (fun j hj => by have := og_lt HE.out.chg hj; have := HE.out.base; omega), HE.out.base⟩
              clear hown9 hgrow9 hnil9 x0 x1 x2 z0 z1
              go_wp2_with fail
              go_roundw
              case rel => exact ⟨k + 1, by omega, by go_num, hid (by rw [HRv.out, HRc.out]; exact HH9.out)⟩
              case measure => simp [intOf]; omega
          · have hb1 : ((nd : Int) == self) = false := by simpa using es
            have HNx : Hid (nextM self ⟨(nd : Int), xm⟩ was = belM xm was) := hid (by unfold nextM belM; rw [if_neg es])
            clear es
            go_upto_region 11 with fail
            have HBc := HB
            clear HB x0 x1 x2
            generalize belM xm was = nx at *
            obtain ⟨wC, hwC⟩ : ∃ wC, wC = wD := ⟨_, rfl⟩
            subst hwC
            cases hsm : sameM nx was with
            | true =>
              have HRv : Hid (hearV self v (l.take (k + 1)) = V) := hid (by rw [HNv.out, (HSt.out nx HNx.out).1, (sameM_iff nx was).1 hsm, HSelf.out])
              have HRc : Hid (hearC self v (l.take (k + 1)) = C) := hid (by rw [HNc.out, (HSt.out nx HNx.out).2, hsm, if_pos rfl, List.append_nil])
              have heq := eq_M nx was
              rw [hsm] at heq
              obtain ⟨y0, y1⟩ := at_cells2 HBc.out.a1
              obtain ⟨z0, z1⟩ := at_cells2 HBc.out.a2
              clear hsm
              go_wp2_with fail
              go_roundw
              case rel => exact ⟨k + 1, by omega, by go_num, hid (by rw [HRv.out, HRc.out]; exact ⟨HBc.out.hr.out, HBc.out.hr.chg, HBc.out.hr.kept, HBc.out.hr.base⟩)⟩
              case measure => simp [intOf]; omega
            | false =>
              obtain ⟨V1, hV1⟩ : ∃ V1, V.set nd nx = V1 := ⟨_, rfl⟩
              have HRv : Hid (hearV self v (l.take (k + 1)) = V1) := hid (by rw [HNv.out, (HSt.out nx HNx.out).1, hV1])
              have HRc : Hid (hearC self v (l.take (k + 1)) = C ++ [⟨(nd : Int), nx⟩]) := hid (by rw [HNc.out, (HSt.out nx HNx.out).2, hsm]; rfl)
              have heq := eq_M nx was
              rw [hsm] at heq
              obtain ⟨x0, x1, x2, -⟩ := at_cells3 HBc.out.a0
              obtain ⟨y0, y1⟩ := at_cells2 HBc.out.a1
              obtain ⟨z0, z1⟩ := at_cells2 HBc.out.a2
              obtain ⟨d0, d1, df⟩ := hr_cells HBc.out.hr HWas.out
              obtain ⟨hD, hD0, hD2⟩ := hb_store HBc.out HWas.out nx
              have HD0 := hid (hD0 (hb_ne0 HBc.out))
              have HD2 := hid hD2
              rw [hV1] at hD
              have HD := hid hD
              clear hsm hV1 hD hD0 hD2
              go_upto_region 13 with fail
              clear heq x0 x1 x2 y0 y1 z0 z1 d0 d1 df
              generalize (wC.setCell ⟨q, nd * 2, none⟩ (.int .u8 nx.st)).setCell ⟨q, nd * 2 + 1, none⟩ (.int .u32 nx.inc) = wD at *
              obtain ⟨x0, x1, x2, -⟩ := at_cells3 HD0.out
              obtain ⟨z0, z1⟩ := at_cells2 HD2.out
              have HE := hid (hr_kept HD.out (kept_alloc (kept_refl wD) (.cells #[.int .u8 (nd : Int), .int .u8 nx.st, .int .u32 nx.inc] 42)))
              have HAl := hid (rg_alone encN_ok (y := ⟨(nd : Int), nx⟩) (at_new wD #[.int .u8 (nd : Int), .int .u8 nx.st, .int .u32 nx.inc] 42))
              have HBw : Hid (B0 ≤ (wD.alloc (.cells #[.int .u8 (nd : Int), .int .u8 nx.st, .int .u32 nx.inc] 42)).heap.size) := hid (by have h1 := HE.out.kept.2; rw [HE.out.base] at h1; exact h1)
              go_wp2_with (at_builtin; go_must (refine wpList_gapp rfl (.tmp 59) (.tmp 64) rfl encN_ok tyN (by decide) B0 _ _ _ _ rfl HE.out.chg rfl HAl.out (by have := HCl.out; simp; omega) HBw.out ?_; intro v9 w9 hown9 hgrow9 hnil9))
              have HH9 : Hid (Hc w B0 (some ⟨q, 0, none⟩) n co V1 v9 (C ++ [⟨(nd : Int), nx⟩]) w9) := hid ⟨og_beside HE.out.out HE.out.chg (by decide) hgrow9, hown9, kept_gr HE.out.kept hgrow9 (fun j hj => by have := og_lt HE.out.chg hj; have := HE.out.base; omega), HE.out.base⟩
              clear hown9 hgrow9 hnil9 x0 x1 x2 z0 z1
              go_wp2_with fail
              go_roundw
              case rel => exact ⟨k + 1, by omega, by go_num, hid (by rw [HRv.out, HRc.out]; exact HH9.out)⟩
              case measure => simp [intOf]; omega
      · have hin2 : (n : Int) ≤ (nd : Int) := by omega
        have HRv : Hid (stepV self V ⟨(nd : Int), xm⟩ = V ∧ stepC self V ⟨(nd : Int), xm⟩ = []) := hid (by
          have hno : V[nd]? = none := List.getElem?_eq_none (by rw [HVk.out]; omega)
          unfold stepV stepC
          simp [hno])
        go_wp2_with fail
        go_roundw
        case rel => exact ⟨k + 1, by omega, by go_num, hid (by rw [HNv.out, HNc.out, HRv.out.1, HRv.out.2, List.append_nil]; exact HHa.out)⟩
        case measure => simp [intOf]; omega
    · have he : k = ln := by omega
      subst he
      rw [HT.out] at HHr
      go_wp2_with fail
      go_ret2
      exact HEnd.out _ _ _ _ _ _ _ rfl HHr.out
theorem hear_is : HearIs := fun self v l vv lv w h0 h1 hv hl hm hx h hn => hear_any self v l hv (by omega) hm hx vv lv w h hn
end Go.Proofs.Ytdcokccfannfmaa
