/- The contracts of the reference's Add and New. Rows of counts have at most 4096 members. -/
import Derived.Test.YtibidhmahjbciaaCtRows
import Derived.Deep.CutBlock
import Derived.Deep.DeepCutAuto
namespace Go.Proofs.Ytibidhmahjbciaa
open Go.ChangeShapes Go.WideShapes Go.ChangeAt Go.RowKit
set_option linter.unusedVariables false
set_option linter.unusedSimpArgs false
set_option maxRecDepth 100000

theorem add_at {l : List Ct} {i : Nat} {x : Ct} {q : ByteArray} (n : Int) (hx : l[i]? = some x) (hp : placeC l q = i) : addC l q n = l.set i ⟨x.name, moreC x.n n⟩ := by
  unfold addC
  rw [hp]
  apply List.ext_getElem?
  intro j
  rw [List.getElem?_modify, List.getElem?_set]
  by_cases e : i = j
  · subst e
    have hl := (List.getElem?_eq_some_iff.1 hx).1
    have he := (List.getElem?_eq_some_iff.1 hx).2
    simp [hl, he]
  · simp [e]
theorem add_off {l : List Ct} {q : ByteArray} (n : Int) (hp : placeC l q = l.length) : addC l q n = l := by
  unfold addC
  apply List.ext_getElem?
  intro j
  rw [List.getElem?_modify, hp]
  cases e : l[j]? with
  | none => simp
  | some x =>
    have hl := (List.getElem?_eq_some_iff.1 e).1
    have : l.length ≠ j := by omega
    simp [this]
def RAddC (l : List Ct) (q : ByteArray) (n : Int) (w : World) (e : Ending) (w' : World) : Prop := ∃ v, e = .returned (.tuple #[v, .bool (hasC l q)]) ∧ Og encC 2 46 w' w.heap.size v (addC l q n) ∧ Kept w w'
set_option maxHeartbeats 3200000 in
theorem radd_any (l : List Ct) (hl : l.length ≤ 4096) (ok : CtsOk l) (q : ByteArray) (n : Int) (hn : 0 ≤ n ∧ n ≤ 18446744073709551615) (v : Value) (w : World) (h : Rg encC 2 w v l) : Calls Try.prog 12 #[v, .string q, .int .u64 n] w (RAddC l q n w) := by
  have HR := hid h
  obtain ⟨a, cap, rfl, hc1, hc2, -, -⟩ := h
  have HG : Hid (∀ k, k < l.length → ∃ y, l[k]? = some y ∧ 0 ≤ y.n ∧ y.n ≤ 18446744073709551615) := hid (fun k hk => ⟨l[k], List.getElem?_eq_getElem hk, ok _ (List.getElem_mem hk)⟩)
  have HLe := hid (place_le l q)
  obtain ⟨iC, hiC, hzC, hsC, hbC⟩ := info_parts infoC
  obtain ⟨cs1, mk1, O1⟩ := og_full (P := Try.prog) (t := 29) encC_ok Try.underlying29 hiC hzC hsC (by rw [hbC]; decide) (z := ⟨⟨#[]⟩, 0⟩) rfl l.length hl w
  have K1 := kept_alloc (kept_refl w) (.cells cs1 46)
  obtain ⟨R, hR⟩ : ∃ R, w.heap.size = R := ⟨_, rfl⟩
  generalize w.alloc (.cells cs1 46) = w1 at *
  rw [hR] at mk1 O1
  obtain ⟨cs2, cp2, O2⟩ := og_copy (P := Try.prog) (t := 29) encC_ok Try.underlying29 hiC hsC O1 (by simp) (rg_kept encC_ok HR.out K1) rfl 3
  have HK2 : Hid (Kept w (w1.setRow R cs2)) := hid (kept_setRow K1 (by omega) _)
  have HO2 := hid O2
  generalize w1.setRow R cs2 = w2 at *
  have HB := hid hR
  have HE : Hid (∀ rv b L u, b = hasC l q → L = addC l q n → Og encC 2 46 u R rv L → Kept w u → RAddC l q n w (.returned (.tuple #[rv, .bool b])) u) := hid (fun rv b L u hb hL ho hk => ⟨rv, by rw [hb], by rw [hR, ← hL]; exact ho, hk⟩)
  have HH : Hid (∀ i x, l[i]? = some x → i ≤ placeC l q → sameT x.name q = true → true = hasC l q ∧ l.set i ⟨x.name, moreC x.n n⟩ = addC l q n) := hid (fun i x hx hi hs => by
    have e := place_hit hx hi hs
    have hlt := (List.getElem?_eq_some_iff.1 hx).1
    exact ⟨by unfold hasC; rw [e]; simpa using hlt, (add_at n hx e).symm⟩)
  have HN : Hid (placeC l q = l.length → false = hasC l q ∧ l = addC l q n) := hid (fun e => ⟨by unfold hasC; rw [e]; simp, (add_off n e).symm⟩)
  clear O1 O2 K1 hiC hzC hsC hbC hR ok hc1 hc2
  generalize hm : l.length = m at *
  clear hm
  go_enter Try.func12, Try.ntmps12
  go_wp2_with fail
  clear mk1 cp2
  go_loopw [18] (fun j wr => ∃ k : Nat, k ≤ m ∧ j = .int .i64 (k : Int) ∧ Hid (k ≤ placeC l q) ∧ Hid (Kept w wr) ∧ Hid (Og encC 2 46 wr R (.slice (some ⟨R, 0, none⟩) m m) l)) (fun j _ => m - (intOf j).toNat)
  case atStart => exact ⟨0, Nat.zero_le _, rfl, hid (Nat.zero_le _), HK2, HO2⟩
  case round =>
    obtain ⟨k, hk, rfl, hpk, HK, HO⟩ := hrel
    clear HK2 HO2
    by_cases hlt : k < m
    · obtain ⟨x, hx, hx1, hx2⟩ := HG.out k hlt
      obtain ⟨c0, c1⟩ := og_C HO.out hx
      have f1 := og_frozen HO.out (k * 2 + 1)
      cases hs : sameT x.name q with
      | true =>
        have HF := hid (HH.out k x hx hpk.out hs)
        have HP : Hid (∀ z, Og encC 2 46 (wr.setCell ⟨R, k * 2 + 1, none⟩ (.int .u64 z)) R (.slice (some ⟨R, 0, none⟩) m m) (l.set k ⟨x.name, z⟩)) := hid (fun z => og_put encC_ok HO.out (j := 1) hx (by decide) rfl)
        have HKz : Hid (∀ z, Kept w (wr.setCell ⟨R, k * 2 + 1, none⟩ (.int .u64 z))) := hid (fun z => kept_set HK.out (by rw [HB.out]; exact Nat.le_refl _) _ _)
        unfold sameT at hs
        clear hx
        by_cases hov : x.n + n ≤ 18446744073709551615
        · have e1 : IntKind.u64.wrap (x.n + n) = x.n + n := by rw [IntKind.wrap_u64]; omega
          have e2 : decide (x.n + n < n) = false := by simp; omega
          have HM : Hid (moreC x.n n = x.n + n) := hid (by unfold moreC topC; rw [if_pos hov])
          go_wp2_with fail
          go_ret2
          exact HE.out _ _ _ _ HF.out.1 (by rw [← HF.out.2, HM.out]) (HP.out _) (HKz.out _)
        · have e1 : IntKind.u64.wrap (x.n + n) = x.n + n - 18446744073709551616 := by rw [IntKind.wrap_u64]; omega
          have e2 : decide (x.n + n - 18446744073709551616 < n) = true := by simp; omega
          have HM : Hid (moreC x.n n = 18446744073709551615) := hid (by unfold moreC topC; rw [if_neg hov])
          go_wp2_with fail
          go_ret2
          exact HE.out _ _ _ _ HF.out.1 (by rw [← HF.out.2, HM.out]) (HP.out _) (HKz.out _)
      | false =>
        have HF := hid (place_on hx hpk.out hs)
        unfold sameT at hs
        clear hx
        go_wp2_with fail
        go_roundw
        case rel => exact ⟨k + 1, by omega, by go_num, HF, HK, HO⟩
        case measure => simp [intOf]; omega
    · have he : k = m := by omega
      subst he
      have HF := hid (HN.out (by have := HLe.out; have := hpk.out; omega))
      go_wp2_with fail
      go_ret2
      exact HE.out _ _ _ _ HF.out.1 HF.out.2 HO.out HK.out
theorem emp_is (x : ByteArray) : sameT x emptyT = x.toList.isEmpty := by
  unfold sameT emptyT
  rw [ByteArray.toList_eq ⟨#[]⟩]
  cases x.toList <;> rfl
theorem builtC (w : World) : Og encC 2 46 (w.alloc (.cells #[] 46)) w.heap.size (.slice (some ⟨w.heap.size, 0, none⟩) 0 0) [] := og_built encC_ok 46 w _ (Nat.le_refl _) [] (by decide)
def RNewC (names : List ByteArray) (w : World) (e : Ending) (w' : World) : Prop := ∃ v b, e = .returned (.tuple #[v, .bool b]) ∧ (b = true ↔ MayC names) ∧ (b = true → Og encC 2 46 w' w.heap.size v (newC names)) ∧ Kept w w'
set_option maxHeartbeats 3200000 in
theorem rnew_any (l : List ByteArray) (v : Value) (w : World) (h : Rg encK 1 w v l) : Calls Try.prog 9 #[v] w (RNewC l w) := by
  have HR := hid h
  obtain ⟨a, cap, rfl, hc1, hc2, -, -⟩ := h
  have HG : Hid (∀ k, k < l.length → ∃ y, l[k]? = some y) := hid (fun k hk => ⟨l[k], List.getElem?_eq_getElem hk⟩)
  have HP : Hid (0 < l.length → ∃ g o, a = some ⟨g, o, none⟩) := hid (fun hp => by
    obtain ⟨g, o, c, e⟩ := rg_pos HR.out hp
    injection e with e1
    exact ⟨g, o, e1⟩)
  have HO0 := hid (builtC w)
  have HK0 := hid (kept_alloc (kept_refl w) (.cells #[] 46))
  have HNo : Hid (∀ rv u, ¬ MayC l → Kept w u → RNewC l w (.returned (.tuple #[rv, .bool false])) u) := hid (fun rv u hn hk => ⟨rv, false, rfl, ⟨fun e => (by cases e), fun e => absurd e hn⟩, fun e => (by cases e), hk⟩)
  have HYes : Hid (∀ rv u L, MayC l → L = newC l → Og encC 2 46 u w.heap.size rv L → Kept w u → RNewC l w (.returned (.tuple #[rv, .bool true])) u) := hid (fun rv u L hn hL ho hk => ⟨rv, true, rfl, ⟨fun _ => hn, fun _ => rfl⟩, fun _ => hL ▸ ho, hk⟩)
  have HMay : Hid (MayC l ↔ 0 < l.length ∧ l.length ≤ 4096 ∧ FineN l l.length) := hid Iff.rfl
  have HT : Hid (l.take l.length = l) := hid List.take_length
  have HLn : Hid (∀ k, k ≤ l.length → (newC (l.take k)).length = k) := hid (fun k hk => by rw [new_len, List.length_take]; omega)
  have HNx : Hid (∀ k x, l[k]? = some x → newC (l.take (k + 1)) = newC (l.take k) ++ [⟨x, 0⟩]) := hid (fun k x hx => by
    unfold newC
    rw [take_next hx, List.map_append]
    rfl)
  have hmx : l.length ≤ maxLen := by omega
  unfold maxLen at hmx
  clear hc1 hc2
  generalize hm : l.length = m at *
  clear hm
  by_cases h0 : m = 0
  · subst h0
    go_enter Try.func9, Try.ntmps9
    go_wp2_with fail
    go_ret2
    exact HNo.out _ _ (fun hh => by have := (HMay.out.1 hh).1; omega) HK0.out
  by_cases h1 : 4096 < m
  · have b0 : ((m : Int) == 0) = false := by simp; omega
    have b1 : decide ((4096 : Int) < (m : Int)) = true := by simp; omega
    go_enter Try.func9, Try.ntmps9
    go_wp2_with fail
    go_ret2
    exact HNo.out _ _ (fun hh => by have := (HMay.out.1 hh).2.1; omega) HK0.out
  have b0 : ((m : Int) == 0) = false := by simp; omega
  have b1 : decide ((4096 : Int) < (m : Int)) = false := by simp; omega
  obtain ⟨g, o, rfl⟩ := HP.out (by omega)
  go_enter Try.func9, Try.ntmps9
  go_wp2_with fail
  generalize w.alloc (.cells #[] 46) = w0 at *
  generalize hB0 : w.heap.size = B0 at *
  have HB0 := hid hB0
  clear hB0
  go_loopw [4, 19] (fun ks j wr => ∃ k : Nat, k ≤ m ∧ j = .int .i64 (k : Int) ∧ Hid (Og encC 2 46 wr B0 ks (newC (l.take k))) ∧ Hid (FineN l k) ∧ Hid (Kept w wr)) (fun _ j _ => m - (intOf j).toNat)
  case atStart => exact ⟨0, Nat.zero_le _, rfl, HO0, hid (fine_zero l), HK0⟩
  case round =>
    obtain ⟨k, hk, rfl, HO, HF, HK⟩ := hrel
    clear HO0 HK0
    by_cases hlt : k < m
    · obtain ⟨x, hx⟩ := HG.out k hlt
      have c0 := rg_K (rg_kept encK_ok HR.out HK.out) hx
      cases hs : sameT x emptyT with
      | true =>
        have HX := hid (HNo.out u4 wr (fun hh => by
          have := ((HMay.out.1 hh).2.2 k hlt x hx).1
          rw [hs] at this
          cases this) HK.out)
        rw [emp_is] at hs
        clear hx
        go_wp2_with fail
        go_ret2
        exact HX.out
      | false =>
        have HS := hid hs
        have HX := hid hx
        rw [emp_is] at hs
        clear hx
        go_wp2_with fail
        go_loopw [6] (fun j wq => ∃ i : Nat, i ≤ k ∧ j = .int .i64 (i : Int) ∧ Hid (∀ p, p < i → ∀ y, l[p]? = some y → sameT y x = false) ∧ Hid (Kept wr wq)) (fun j _ => k - (intOf j).toNat)
        case atStart => exact ⟨0, Nat.zero_le _, rfl, hid (fun p hp => absurd hp (Nat.not_lt_zero p)), hid (kept_refl _)⟩
        case round =>
          obtain ⟨i, hi, rfl, HI, HQ⟩ := hrel
          by_cases hik : i < k
          · obtain ⟨y, hy⟩ := HG.out i (by omega)
            have d0 := rg_K (rg_kept encK_ok HR.out (kept_trans HK.out HQ.out)) hy
            have d1 := rg_K (rg_kept encK_ok HR.out (kept_trans HK.out HQ.out)) HX.out
            cases ht : sameT y x with
            | true =>
              have HZ : Hid (∀ d, RNewC l w (.returned (.tuple #[u4, .bool false])) (wr.drewN d)) := hid (fun d => HNo.out u4 _ (fun hh => by
                have := ((HMay.out.1 hh).2.2 k hlt x HX.out).2 i hik y hy
                rw [ht] at this
                cases this) (kept_drewN (kept_trans HK.out HQ.out) d))
              unfold sameT at ht
              clear hy
              go_wp2_with fail
              go_quiet (fail)
              go_wp2_with fail
              go_ret2
              exact HZ.out _
            | false =>
              have HZ : Hid (∀ p, p < i + 1 → ∀ z, l[p]? = some z → sameT z x = false) := hid (fun p hp z hz => by
                by_cases e : p = i
                · subst e
                  rw [hy] at hz
                  injection hz with hz
                  subst hz
                  exact ht
                · exact HI.out p (by omega) z hz)
              unfold sameT at ht
              clear hy
              go_wp2_with fail
              go_quiet (fail)
              go_wp2_with fail
              go_roundw
              case rel => exact ⟨i + 1, by omega, by go_num, HZ, hid (kept_drewN HQ.out _)⟩
              case measure => simp [intOf]; omega
          · have he : i = k := by omega
            subst he
            have HFn := hid (fine_next HF.out HX.out HS.out HI.out)
            have HE := hid (HNx.out i x HX.out)
            have e0 := rg_K (rg_kept encK_ok HR.out (kept_trans HK.out HQ.out)) HX.out
            have HKa := hid (kept_alloc (kept_trans HK.out HQ.out) (.cells #[.string x, .int .u64 0] 46))
            have HOx := hid (og_stays HO.out (kept_alloc HQ.out (.cells #[.string x, .int .u64 0] 46)))
            have HAl := hid (rg_alone encC_ok (y := ⟨x, 0⟩) (at_new wr #[.string x, .int .u64 0] 46))
            have HBw : Hid (B0 ≤ (wr.alloc (.cells #[.string x, .int .u64 0] 46)).heap.size) := hid (by have := HKa.out.2; have := HB0.out; omega)
            have HLk := hid (HLn.out i (by omega))
            go_wp2_with (at_builtin; go_must (refine wpList_gapp rfl (.tmp 43) (.tmp 49) rfl encC_ok tyC (by decide) B0 _ _ _ _ rfl HOx.out rfl HAl.out (by have := HLk.out; simp; omega) HBw.out ?_; intro v3 w3 hown3 hgrow3 hnil3))
            have HO3 : Hid (Og encC 2 46 w3 B0 v3 (newC (l.take (i + 1)))) := hid (by rw [HE.out]; exact hown3)
            have HK3 := hid (kept_gr HKa.out hgrow3 (fun j hj => by have := og_lt HOx.out hj; have := HB0.out; omega))
            go_roundw
            case rel => exact ⟨i + 1, by omega, by go_num, HO3, HFn, HK3⟩
            case measure => simp [intOf]; omega
    · have he : k = m := by omega
      subst he
      rw [HT.out] at HO
      go_wp2_with fail
      go_ret2
      exact HYes.out _ _ _ (HMay.out.2 ⟨by omega, by omega, HF.out⟩) rfl HO.out HK.out
end Go.Proofs.Ytibidhmahjbciaa
