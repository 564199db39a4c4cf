/- The walk of TalkMost, out of what the landed talk must answer. -/
import Derived.Test.YtalcbahnhiibkaaTkMaps
namespace Go.Proofs.Ytalcbahnhiibkaa
open Go.ChangeShapes Go.WideShapes Go.ChangeAt Go.RowKit
set_option linter.unusedVariables false
set_option linter.unusedSimpArgs false
set_option maxRecDepth 100000

/- The last one of each node. -/
def LA (l : List Pc) (L : Int → Option Nw) : Prop := ∀ q ∈ l, L q.x.node = some q.x
theorem la_nil (L : Int → Option Nw) : LA [] L := fun q hq => by simp at hq
theorem la_add {l : List Pc} {L : Int → Option Nw} (h : LA l L) (x : Nw) : LA (addP l x) (upd L x.node x) := fun q hq => by
  unfold addP at hq
  rw [List.mem_cons] at hq
  unfold upd
  rcases hq with rfl | hq
  · simp
  · obtain ⟨h1, h2⟩ := List.mem_filter.1 hq
    have : q.x.node ≠ x.node := by simpa using h2
    rw [if_neg this]
    exact h q h1
theorem la_take {l : List Pc} {L : Int → Option Nw} (h : LA l L) (n k : Nat) : LA (takeR l n k) L := fun q hq => by
  obtain ⟨h1, h2⟩ := keep_mem.1 hq
  obtain ⟨i, q', e, rfl⟩ := bump_mem h1
  rw [bmp_x]
  exact h q' (List.mem_of_getElem? e)
theorem la_told {l : List Pc} {L : Int → Option Nw} (h : LA l L) {k : Nat} {x : Nw} (hx : x ∈ takeT l k) : L x.node = some x := by
  obtain ⟨i, q, _, e, rfl⟩ := take_mem hx
  exact h q (List.mem_of_getElem? e)
theorem told_ok {n : Nat} {l : List Pc} (h : Gd n l) {k : Nat} {x : Nw} (hx : x ∈ takeT l k) : NwOk x := by
  obtain ⟨i, q, _, e, rfl⟩ := take_mem hx
  exact (h.fit q (List.mem_of_getElem? e)).1
/- Those that were seen. -/
def sn (xs : List Nw) (q : Int) : Option Bool := if q ∈ xs.map Nw.node then some true else none
theorem sn_nil : sn [] = fun _ => none := by funext q; simp [sn]
theorem sn_more (xs : List Nw) (x : Nw) : sn (xs ++ [x]) = upd (sn xs) x.node true := by
  funext q
  unfold sn upd
  by_cases e : q = x.node
  · simp [e]
  · simp [e]
theorem once_next {xs : List Nw} (h : (xs.map Nw.node).Nodup) {j : Nat} {x : Nw} (hx : xs[j]? = some x) : x.node ∉ (xs.take j).map Nw.node := by
  have hj := (List.getElem?_eq_some_iff.1 hx).1
  intro hm
  obtain ⟨y, hy, e⟩ := List.mem_map.1 hm
  obtain ⟨i, hi⟩ := List.mem_iff_getElem?.1 hy
  have hij : i < j := by
    have := (List.getElem?_eq_some_iff.1 hi).1
    rw [List.length_take] at this
    omega
  rw [List.getElem?_take, if_pos hij] at hi
  have h1 : (xs.map Nw.node)[i]? = some y.node := by rw [List.getElem?_map, hi]; rfl
  have h2 : (xs.map Nw.node)[j]? = some x.node := by rw [List.getElem?_map, hx]; rfl
  have := (List.getElem?_inj (by simp; omega) h).1 (h1.trans (by rw [h2, e]))
  omega
theorem look_B {w : World} {S : Nat} {g : Int → Option Bool} (h : Gd' mapB w S g) {x : Int} (hx : okU x) (hg : g x = none) : (Instr.lookup 49 (.map (some S)) (.int .u8 x) false).run Try.prog w = .ok (.bool false) w := by
  have := gm_look1 mapB_ok h (x := x) hx
  rw [hg] at this
  exact this
theorem look_L {w : World} {S : Nat} {g : Int → Option Nw} (h : Gd' mapL w S g) {x : Int} (hx : okU x) {y : Nw} (hg : g x = some y) : (Instr.lookup 45 (.map (some S)) (.int .u8 x) false).run Try.prog w = .ok (.agg #[.int .u8 y.node, .int .u8 y.st, .int .u32 y.inc]) w := by
  have := gm_look1 mapL_ok h (x := x) hx
  rw [hg] at this
  exact this
theorem put_L {w : World} {S : Nat} {g : Int → Option Nw} (h : Gd' mapL w S g) (y : Nw) (hy : NwOk y) : ∃ w', (Instr.mapUpdate 45 (.map (some S)) (.int .u8 y.node) (.agg #[.int .u8 y.node, .int .u8 y.st, .int .u32 y.inc])).run Try.prog w = .ok () w' ∧ Gd' mapL w' S (upd g y.node y) ∧ w.mapTurned w' S := gd_put mapL_ok rfl h (x := y.node) hy.1 y
theorem put_B {w : World} {S : Nat} {g : Int → Option Bool} (h : Gd' mapB w S g) {x : Int} (hx : okU x) : ∃ w', (Instr.mapUpdate 49 (.map (some S)) (.int .u8 x) (.bool true)).run Try.prog w = .ok () w' ∧ Gd' mapB w' S (upd g x true) ∧ w.mapTurned w' S := gd_put mapB_ok rfl h hx true
/- What stands side by side: the talk, the map of the last ones. -/
structure Mo (T : Shape) (W : World) (X n k : Nat) (l : List Pc) (F : Nat → Prop) (m : Nat) (L : Int → Option Nw) (w : World) : Prop where
  t : TT T W X n k l F w
  d : Gd' mapL w m L
  o : Off w F m
  b : W.heap.size ≤ m
  a : LA l L
section
variable {T : Shape} {W w w' : World} {X n k m : Nat} {l : List Pc} {F F' : Nat → Prop} {L : Int → Option Nw}
theorem mo_kept (hT : TalkIs T) (h : Mo T W X n k l F m L w) (kk : Kept w w') : Mo T W X n k l F m L w' := ⟨tt_kept hT h.t kk, gd_kept h.d kk, off_kept h.o kk, h.b, h.a⟩
theorem mo_add (h : Mo T W X n k l F m L w) (x : Nw) (ht : TT T W X n k (addP l x) F' w') (s : Sd F w F' w') : TT T W X n k (addP l x) F' w' ∧ Gd' mapL w' m L ∧ Off w' F' m := ⟨ht, gd_sd h.d h.o s, off_sd h.o s⟩
theorem mo_take (h : Mo T W X n k l F m L w) (ht : TT T W X n k (takeR l n k) F' w') (s : Sd F w F' w') : Mo T W X n k (takeR l n k) F' m L w' := ⟨ht, gd_sd h.d h.o s, off_sd h.o s, h.b, la_take h.a n k⟩
theorem mo_turned (hT : TalkIs T) (h : Mo T W X n k l F m L w) {S : Nat} (hS : Off w F S) (hw : W.heap.size ≤ S) (hn : m ≠ S) (t : w.mapTurned w' S) : Mo T W X n k l F m L w' := ⟨tt_turned hT h.t hS hw t, gd_turned h.d t hn, off_turned h.o t, h.b, h.a⟩
end
set_option maxHeartbeats 12800000 in
theorem most_walk {T : Shape} (hT : TalkIs T) (t8 m8 : Int) (ht8 : okU t8) (hm8 : okU m8) (ops : List Opn) (hx : ∀ o ∈ ops, NwOk o.x) (v : Value) (w : World) (h : Rg encO 4 w v ops) : Calls Try.prog 6 #[.int .u8 t8, .int .u8 m8, v] w fun e w' => e = .returned (.bool true) ∧ Kept w w' := by
  have HT := hid hT
  have HF := hid (fun u => fixed_any hT u)
  have HR := hid h
  have HX := hid hx
  obtain ⟨a, cap, rfl, hc1, hc2, -, -⟩ := h
  unfold maxLen at hc2
  have HG : Hid (∀ i, i < ops.length → ∃ y, ops[i]? = some y ∧ NwOk y.x) := hid (fun i hi => ⟨ops[i], List.getElem?_eq_getElem hi, HX.out _ (List.getElem_mem hi)⟩)
  have HP : Hid (0 < ops.length → ∃ g o, a = some ⟨g, o, none⟩) := hid (fun hp => by
    obtain ⟨g, o, c, e⟩ := rg_pos HR.out hp
    injection e with e1
    exact ⟨g, o, e1⟩)
  obtain ⟨n0, hn0⟩ : ∃ r : Nat, t8 % 64 = (r : Int) := ⟨(t8 % 64).toNat, by have := ht8.1; omega⟩
  obtain ⟨k0, hk0⟩ : ∃ r : Nat, m8 % 64 = (r : Int) := ⟨(m8 % 64).toNat, by have := hm8.1; omega⟩
  have HNK : Hid (n0 < 64 ∧ k0 < 64) := hid (by have := ht8.1; have := hm8.1; omega)
  have e1 : Int.tmod t8 64 = (n0 : Int) := by rw [Int.tmod_eq_emod_of_nonneg ht8.1, hn0]
  have e2 : Int.tmod m8 64 = (k0 : Int) := by rw [Int.tmod_eq_emod_of_nonneg hm8.1, hk0]
  have e3 : IntKind.i64.wrap t8 = t8 := IntWalk.i64_in _ (by have := ht8.1; have := ht8.2; omega)
  have e4 : IntKind.i64.wrap m8 = m8 := IntWalk.i64_in _ (by have := hm8.1; have := hm8.2; omega)
  have e5 : IntKind.i64.wrap (n0 : Int) = (n0 : Int) := IntWalk.i64_in _ (by have := HNK.out; omega)
  have e6 : IntKind.i64.wrap (k0 : Int) = (k0 : Int) := IntWalk.i64_in _ (by have := HNK.out; omega)
  have e7 : IntKind.i64.wrap (1 + (n0 : Int)) = ((1 + n0 : Nat) : Int) := by rw [IntWalk.i64_in _ (by have := HNK.out; omega)]; omega
  have e8 : IntKind.i64.wrap (1 + (k0 : Int)) = ((1 + k0 : Nat) : Int) := by rw [IntWalk.i64_in _ (by have := HNK.out; omega)]; omega
  generalize hn : 1 + n0 = n at *
  generalize hk : 1 + k0 = k at *
  have HNK2 : Hid (1 ≤ n ∧ n ≤ 64 ∧ 1 ≤ k ∧ k ≤ 64) := hid (by have := HNK.out; omega)
  have hN := tt_new (T := T) (W := w) (n := n) (k := k) hT (kept_refl w) HNK2.out.1 HNK2.out.2.1 HNK2.out.2.2.1 HNK2.out.2.2.2
  have HTk : Hid (∀ (l : List Pc) (F : Nat → Prop) (X : Nat) (u : World), TT T w X n k l F u → Calls Try.prog 11 #[.pointer (some ⟨X, 0, none⟩)] u fun e w' => ∃ r F', e = .returned r ∧ Rg encN 3 w' r (takeT l k) ∧ TT T w X n k (takeR l n k) F' w' ∧ Sd F u F' w') := hid (fun l F X u ht => tt_take hT ht HNK2.out.1 HNK2.out.2.1 HNK2.out.2.2.1 HNK2.out.2.2.2)
  have HAd : Hid (∀ (l : List Pc) (F : Nat → Prop) (X : Nat) (u : World) (x : Nw), NwOk x → x.node < 64 → TT T w X n k l F u → Calls Try.prog 12 #[.pointer (some ⟨X, 0, none⟩), .agg #[.int .u8 x.node, .int .u8 x.st, .int .u32 x.inc]] u fun e w' => e = .returned (.int .i64 0) ∧ ∃ F', TT T w X n k (addP l x) F' w' ∧ Sd F u F' w') := hid (fun l F X u x hx hx2 ht => tt_add hT ht HNK2.out.1 HNK2.out.2.1 hx hx2)
  have hz := zeroO
  have hz2 := zeroN
  have hmm := @run_makeMap Try.prog
  generalize hm : ops.length = m at *
  clear hm hT hx ht8 hm8 hn0 hk0 hn hk HNK
  go_enter Try.func6, Try.ntmps6
  go_wp2_with fail
  refine hN.mono ?_
  rintro e w1 ⟨X, F, rfl, t1, -⟩
  have HT1 := hid t1
  clear t1 hN e1 e2 e3 e4 e5 e6 e7 e8
  go_wp2_with fail
  refine (HF.out w1).mono ?_
  rintro e w2 ⟨rfl, k2⟩
  have HT2 := hid (tt_kept HT.out HT1.out k2)
  clear k2 HT1 HF
  have HD2 := hid (gd_made (M := mapL) w2)
  have k3 := kept_alloc (kept_refl w2) (.map #[] 0)
  have HMo : Hid (Mo T w X n k [] F w2.heap.size (fun _ => none) (w2.alloc (.map #[] 0))) := hid ⟨tt_kept HT.out HT2.out k3, HD2.out, off_new HT.out HT2.out (Nat.le_refl _) (gm_lt HD2.out), HT2.out.k.2, la_nil _⟩
  clear k3 HD2
  go_wp2_with fail
  generalize w2.alloc (.map #[] 0) = w3 at *
  generalize w2.heap.size = mb at *
  clear HT2
  go_loopw [39] (fun iv wr => ∃ (i : Nat) (l : List Pc) (F' : Nat → Prop) (L : Int → Option Nw), i ≤ m ∧ iv = .int .i64 (i : Int) ∧ Hid (Mo T w X n k l F' mb L wr)) (fun iv _ => m - (intOf iv).toNat)
  case atStart => exact ⟨0, [], F, _, by omega, rfl, HMo⟩
  case round =>
    obtain ⟨i, l, F', L, hi, rfl, HMr⟩ := hrel
    clear HMo
    by_cases hlt : i < m
    · obtain ⟨y, hy, hyk⟩ := HG.out i hlt
      obtain ⟨g, o, rfl⟩ := HP.out (by omega)
      obtain ⟨c0, c1, c2, c3⟩ := rg_O (rg_kept encO_ok HR.out HMr.out.t.k) hy
      have HY := hid hyk
      clear hy hyk
      have HZ := hid (at_new wr #[.bool y.take, .int .u8 y.x.node, .int .u8 y.x.st, .int .u32 y.x.inc] 35)
      have ka := kept_alloc (kept_refl wr) (.cells #[.bool y.take, .int .u8 y.x.node, .int .u8 y.x.st, .int .u32 y.x.inc] 35)
      have HMa := hid (mo_kept HT.out HMr.out ka)
      have HOa := hid (off_new HT.out HMr.out.t (Nat.le_refl _) (at_lt HZ.out))
      clear ka
      by_cases hbig : 200 < i
      · have hbigI : (200 : Int) < (i : Int) := by omega
        go_wp2_with fail
        go_ret
        exact ⟨rfl, HMa.out.t.k⟩
      · have hd : decide ((200 : Int) < (i : Int)) = false := by simp; omega
        obtain ⟨p0, p1, p2, p3⟩ := cells4 HZ.out
        obtain ⟨wa, hwa⟩ : ∃ wa, wr.alloc (.cells #[.bool y.take, .int .u8 y.x.node, .int .u8 y.x.st, .int .u32 y.x.inc] 35) = wa := ⟨_, rfl⟩
        obtain ⟨Z, hZ⟩ : ∃ Z, wr.heap.size = Z := ⟨_, rfl⟩
        rw [hwa, hZ] at HZ p0 p1 p2 p3
        rw [hwa] at HMa
        rw [hwa, hZ] at HOa
        cases hb : y.take with
        | false =>
          rw [hb] at p0 c0 HZ hwa
          by_cases hnode : y.x.node < 64
          · have hdn : decide (y.x.node < (64 : Int)) = true := by simpa using hnode
            have hK := HAd.out l F' X wa y.x HY.out hnode HMa.out.t
            go_wp2_with fail
            refine hK.mono ?_
            rintro e wb ⟨rfl, F2, tb, sb⟩
            have HZb : Hid (At wb Z #[.bool false, .int .u8 y.x.node, .int .u8 y.x.st, .int .u32 y.x.inc] 35) := hid ((off_same HOa.out sb).trans HZ.out)
            have HDb := hid (gd_sd HMa.out.d HMa.out.o sb)
            have HOb := hid (off_sd HMa.out.o sb)
            have HTb := hid tb
            obtain ⟨wc, hput, dc, tc⟩ := put_L HDb.out y.x HY.out
            have HMc : Hid (Mo T w X n k (addP l y.x) F2 mb (upd L y.x.node y.x) wc) := hid ⟨tt_turned HT.out tb HOb.out HMa.out.b tc, dc, off_turned HOb.out tc, HMa.out.b, la_add HMa.out.a y.x⟩
            clear p0 p1 p2 p3 c0 c1 c2 c3 tb sb hK hwa hZ HMa HOa HZ HMr dc tc HDb HOb HTb
            obtain ⟨p0, p1, p2, p3⟩ := cells4 HZb.out
            go_wp2_with fail
            go_roundw
            case rel => exact ⟨i + 1, _, _, _, by omega, by go_num, HMc⟩
            case measure => simp [intOf]; omega
          · have hdn : decide (y.x.node < (64 : Int)) = false := by simpa using hnode
            have hK := tt_bad HT.out HMa.out.t HY.out (by omega)
            go_wp2_with fail
            refine hK.mono ?_
            rintro e wb ⟨rfl, tb, kb⟩
            have HMc := hid (mo_kept HT.out HMa.out kb)
            clear p0 p1 p2 p3 c0 c1 c2 c3 tb kb hK hwa hZ HMa HOa HZ HMr
            go_wp2_with fail
            go_roundw
            case rel => exact ⟨i + 1, _, _, _, by omega, by go_num, HMc⟩
            case measure => simp [intOf]; omega
        | true =>
          rw [hb] at p0 c0 HZ hwa
          have HSb := hid (gd_made (M := mapB) wa)
          have kb := kept_alloc (kept_refl wa) (.map #[] 0)
          have HMb := hid (mo_kept HT.out HMa.out kb)
          have HOs := hid (off_new HT.out HMa.out.t (Nat.le_refl _) (gm_lt HSb.out))
          have HNe : Hid (mb ≠ wa.heap.size ∧ w.heap.size ≤ wa.heap.size) := hid ⟨by have := gm_lt HMa.out.d; omega, HMa.out.t.k.2⟩
          clear kb
          rw [← sn_nil] at HSb
          go_wp2_with fail
          clear p0 p1 p2 p3 c0 c1 c2 c3 hwa hZ HZ HOa HMa HMr
          generalize wa.alloc (.map #[] 0) = wb at *
          generalize wa.heap.size = S at *
          refine (HTk.out l F' X wb HMb.out.t).mono ?_
          rintro e wc ⟨r, F2, rfl, rr, tc, sc⟩
          have HMc := hid (mo_take HMb.out tc sc)
          have HSc := hid (gd_sd HSb.out HOs.out sc)
          have HOc := hid (off_sd HOs.out sc)
          have HRc := hid rr
          have HOn := hid (take_once HMb.out.t.g k)
          have HTo : Hid (∀ x ∈ takeT l k, L x.node = some x ∧ NwOk x) := hid (fun x hx => ⟨la_told HMb.out.a hx, told_ok HMb.out.t.g hx⟩)
          have HTl := hid (take_len l k)
          clear tc sc rr HMb HSb HOs
          generalize takeT l k = tl at *
          generalize takeR l n k = l2 at *
          obtain ⟨ra, rc, rfl, hq1, hq2, -, -⟩ := HRc.out
          have HGt : Hid (∀ j, j < tl.length → ∃ x, tl[j]? = some x) := hid (fun j hj => ⟨tl[j], List.getElem?_eq_getElem hj⟩)
          have HPt : Hid (0 < tl.length → ∃ g o, ra = some ⟨g, o, none⟩) := hid (fun hp => by
            obtain ⟨g, o, c, e⟩ := rg_pos HRc.out hp
            injection e with e1
            exact ⟨g, o, e1⟩)
          have hq3 : tl.length ≤ 64 := by have := HTl.out; have := HNK2.out; omega
          have hdk : decide ((k : Int) < (tl.length : Int)) = false := by have := HTl.out; simp; omega
          have hdk2 : decide (k < tl.length) = false := by have := HTl.out; simp; omega
          clear hq1 hq2
          generalize hql : tl.length = q at *
          clear hql
          go_wp2_with fail
          go_loopw [65] (fun jv wq => ∃ j : Nat, j ≤ q ∧ jv = .int .i64 (j : Int) ∧ Hid (Mo T w X n k l2 F2 mb L wq) ∧ Hid (Gd' mapB wq S (sn (tl.take j))) ∧ Hid (Off wq F2 S) ∧ Hid (Rg encN 3 wq (.slice ra q rc) tl)) (fun jv _ => q - (intOf jv).toNat)
          case atStart => exact ⟨0, Nat.zero_le _, rfl, HMc, HSc, HOc, HRc⟩
          case round =>
            obtain ⟨j, hj, rfl, HMq, HSq, HOq, HRq⟩ := hrel
            clear HMc HSc HOc HRc
            by_cases hjq : j < q
            · obtain ⟨x, hx⟩ := HGt.out j hjq
              obtain ⟨g2, o2, rfl⟩ := HPt.out (by omega)
              obtain ⟨c0, c1, c2⟩ := rg_N HRq.out hx
              obtain ⟨hLx, hxk⟩ := HTo.out x (List.mem_of_getElem? hx)
              have hno : sn (tl.take j) x.node = none := by unfold sn; rw [if_neg (once_next HOn.out hx)]
              have kq := kept_alloc (kept_refl wr) (.cells #[.int .u8 x.node, .int .u8 x.st, .int .u32 x.inc] 33)
              have HM3 := hid (mo_kept HT.out HMq.out kq)
              have HS3 := hid (gd_kept HSq.out kq)
              have HO3 := hid (off_kept HOq.out kq)
              have HR3 := hid (rg_kept encN_ok HRq.out kq)
              obtain ⟨p0, p1, p2⟩ := at_cells3' (at_new wr #[.int .u8 x.node, .int .u8 x.st, .int .u32 x.inc] 33)
              have HNx : Hid (sn (tl.take (j + 1)) = upd (sn (tl.take j)) x.node true) := hid (by rw [take_next hx, sn_more])
              have hl1 := look_B HS3.out (x := x.node) hxk.1 hno
              have hl2 := look_L HM3.out.d (x := x.node) hxk.1 hLx
              have heq := eq_self_N x
              obtain ⟨wz, hput, dz, tz⟩ := put_B HS3.out (x := x.node) hxk.1
              have HM4 := hid (mo_turned HT.out HM3.out HO3.out HNe.out.2 HNe.out.1 tz)
              have HS4 : Hid (Gd' mapB wz S (sn (tl.take (j + 1)))) := hid (by rw [HNx.out]; exact dz)
              have HO4 := hid (off_turned HO3.out tz)
              have HR4 := hid (rg_turned HR3.out tz)
              clear hx hLx hxk hno kq dz tz HM3 HS3 HO3 HR3 HMq HSq HOq HRq HNx
              go_wp2_with fail
              go_roundw
              case rel => exact ⟨j + 1, by omega, by go_num, HM4, HS4, HO4, HR4⟩
              case measure => simp [intOf]; omega
            · have he : j = q := by omega
              subst he
              go_wp2_with fail
              go_roundw
              case rel => exact ⟨i + 1, _, _, _, by omega, by go_num, HMq⟩
              case measure => simp [intOf]; omega
    · have he : i = m := by omega
      subst he
      go_wp2_with fail
      go_ret
      exact ⟨rfl, HMr.out.t.k⟩
end Go.Proofs.Ytalcbahnhiibkaa
