/- The reference's Settle, and its Ack. -/
import Derived.Test.YtahgplfkgijecaaHpMiss
import Derived.Test.YtahgplfkgijecaaGPut
namespace Go.Proofs.Ytahgplfkgijecaa
open Go.ChangeShapes Go.WideShapes Go.ChangeAt Go.RowKit
set_option linter.unusedVariables false
set_option linter.unusedSimpArgs false
set_option maxRecDepth 100000

theorem setL_next {l : List Ht} {i : Nat} {x : Ht} (hx : l[i]? = some x) (up : List Int) : setL (l.take (i + 1)) up = setL (l.take i) up ++ if allH up x then [] else [x] := by
  unfold setL
  rw [take_next hx, List.filter_append]
  congr 1
  cases h : allH up x <;> simp [h]
theorem setL_len (l : List Ht) (up : List Int) : (setL l up).length ≤ l.length := List.length_filter_le _ _
theorem all_next {has : Nat → Bool} {os : List Int} {k : Nat} (b : Bool) : (b && (os ++ [(k : Int)]).all (fun o => has o.toNat)) = ((b && os.all (fun o => has o.toNat)) && has k) := by
  rw [List.all_append, Bool.and_assoc]
  simp
theorem builtX0 (w : World) : Og encX 72 75 (w.alloc (.cells #[] 75)) w.heap.size (.slice (some ⟨w.heap.size, 0, none⟩) 0 0) [] := og_built encX_ok 75 w _ (Nat.le_refl _) [] (by decide)
set_option maxHeartbeats 12800000 in
theorem rsettle_any (l : List Ht) (hn : l.length ≤ 64) (hk : ∀ x ∈ l, x.r.key.size ≤ 1000) (up : List Int) (hu : up.length ≤ 100) (v vu : Value) (w : World) (h : Rg encX 72 w v l) (hup : Rg encU 1 w vu up) : Calls Try.prog 18 #[v, vu] w (GRowC encX 72 75 (setL l up) w) := by
  have HR := hid h
  have HU := hid hup
  have HKy := hid hk
  have HUl := hid hu
  obtain ⟨a, cap, rfl, -, -, -, -⟩ := h
  have HG : Hid (∀ k, k < l.length → ∃ y, l[k]? = some y) := hid (fun k hk => ⟨l[k], List.getElem?_eq_getElem hk⟩)
  have HP : Hid (0 < l.length → ∃ g o, a = some ⟨g, o, none⟩) := hid (fun hp => by
    obtain ⟨g, o, c, e⟩ := rg_pos HR.out hp
    injection e with e1
    exact ⟨g, o, e1⟩)
  have HTT : Hid (l.take l.length = l) := hid List.take_length
  have HLn : Hid (∀ i, (setL (l.take i) up).length ≤ 64) := hid (fun i => by
    have h1 := setL_len (l.take i) up
    have h3 : (l.take i).length ≤ l.length := by rw [List.length_take]; omega
    omega)
  have HB0 := hid (builtX0 w)
  have HK0 := hid (kept_alloc (kept_refl w) (.cells #[] 75))
  generalize hm : l.length = m at *
  clear hm hup hk hu
  go_enter Try.func18, Try.ntmps18
  go_wp2_with fail
  go_loopw [5, 13] (fun nv iv wr => ∃ i : Nat, i ≤ m ∧ iv = .int .i64 (i : Int) ∧ Hid (Og encX 72 75 wr w.heap.size nv (setL (l.take i) up)) ∧ Hid (Kept w wr)) (fun _ iv _ => m - (intOf iv).toNat)
  case atStart => exact ⟨0, Nat.zero_le _, rfl, hid HB0.out, HK0⟩
  case round =>
    obtain ⟨i, hi, rfl, HO, HKr⟩ := hrel
    clear HB0 HK0
    by_cases hlt : i < m
    · have hltz : (i : Int) < (m : Int) := by omega
      obtain ⟨x, hx⟩ := HG.out i hlt
      obtain ⟨g, o, rfl⟩ := HP.out (by omega)
      obtain ⟨c0, -⟩ := rg_X (rg_kept encX_ok HR.out HKr.out) hx
      have HX := hid hx
      have C := rowners_any x.r.key (HKy.out x (List.mem_of_getElem? hx)) up (by have := HUl.out; omega) vu wr (rg_kept encU_ok HU.out HKr.out)
      have HNx := hid (setL_next hx up)
      have HYn : Hid (∀ (j : Nat) (y : Int), (owners x.r.key up)[j]? = some y → ∃ k : Nat, y = (k : Int) ∧ k < 64) := hid (fun j y hy => owner_nat hy)
      have HOl := hid (owners_len x.r.key up)
      have HAl : Hid (allH up x = (decide (0 < (owners x.r.key up).length) && (owners x.r.key up).all (fun o => x.has o.toNat))) := hid rfl
      clear hx
      generalize owners x.r.key up = os at *
      go_wp2_with fail
      refine C.mono ?_
      rintro e w2 ⟨v2, rfl, o2', n2, k2⟩
      have HR2 := hid (rg_own encU_ok o2')
      have HOo := hid (og_stays HO.out k2)
      have HK2 := hid (kept_trans HKr.out k2)
      clear C n2 o2' k2 c0
      obtain ⟨b2, c2, rfl, -, -, -, -⟩ := HR2.out
      have HG2 : Hid (∀ k, k < os.length → ∃ y, os[k]? = some y) := hid (fun k hk => ⟨os[k], List.getElem?_eq_getElem hk⟩)
      have HP2 : Hid (0 < os.length → ∃ g o, b2 = some ⟨g, o, none⟩) := hid (fun hp => by
        obtain ⟨g, o, c, e⟩ := rg_pos HR2.out hp
        injection e with e1
        exact ⟨g, o, e1⟩)
      have HTo : Hid (os.take os.length = os) := hid List.take_length
      have hq2 : os.length ≤ 2 := HOl.out
      have HD : Hid (decide ((0 : Int) < (os.length : Int)) = decide (0 < os.length)) := hid (by simp)
      obtain ⟨bp, hbp⟩ : ∃ bp, decide (0 < os.length) = bp := ⟨_, rfl⟩
      have hdz : decide ((0 : Int) < (os.length : Int)) = bp := by rw [HD.out, hbp]
      rw [hbp] at HAl
      generalize hq : os.length = q at *
      have HBp := hid hbp
      clear hq HD hbp
      go_wp2_with fail
      go_loopw [8, 29] (fun av jv wi => ∃ j : Nat, j ≤ q ∧ jv = .int .i64 (j : Int) ∧ av = .bool (bp && (os.take j).all (fun o => x.has o.toNat)) ∧ Hid (Kept w2 wi)) (fun _ jv _ => q - (intOf jv).toNat)
      case atStart => exact ⟨0, Nat.zero_le _, rfl, by simp [HBp.out], hid (kept_refl _)⟩
      case round =>
        obtain ⟨j, hj, rfl, rfl, HKi⟩ := hrel
        by_cases hjl : j < q
        · have hjz : (j : Int) < (q : Int) := by omega
          obtain ⟨y, hy⟩ := HG2.out j hjl
          obtain ⟨k, rfl, hk64⟩ := HYn.out j y hy
          have hkz : (k : Int) < 64 := by omega
          obtain ⟨g2, o2, rfl⟩ := HP2.out (by omega)
          have cy := rg_U (rg_kept encU_ok HR2.out HKi.out) hy
          have ch := rg_Xh (rg_kept encX_ok HR.out (kept_trans HK2.out HKi.out)) HX.out hk64
          have HTk : Hid ((bp && (os.take (j + 1)).all (fun o => x.has o.toNat)) = ((bp && (os.take j).all (fun o => x.has o.toNat)) && x.has k)) := hid (by rw [take_next hy]; exact all_next bp)
          clear hy hdz
          generalize hcur : (bp && (os.take j).all (fun o => x.has o.toNat)) = cur at *
          clear hcur
          cases cur with
          | true =>
            go_wp2_with fail
            go_quiet (fail)
            go_wp2_with fail
            go_roundw
            case rel => exact ⟨j + 1, by omega, by go_num, by rw [HTk.out, Bool.true_and], hid (kept_drewN HKi.out _)⟩
            case measure => simp [intOf]; omega
          | false =>
            go_wp2_with fail
            go_quiet (fail)
            go_wp2_with fail
            go_roundw
            case rel => exact ⟨j + 1, by omega, by go_num, by rw [HTk.out, Bool.false_and], hid (kept_drewN HKi.out _)⟩
            case measure => simp [intOf]; omega
        · have hje : j = q := by omega
          subst hje
          rw [HTo.out, ← HAl.out]
          have HOi := hid (og_stays HOo.out HKi.out)
          have HKj := hid (kept_trans HK2.out HKi.out)
          clear hdz
          cases hal : allH up x with
          | true =>
            have HNy : Hid (setL (l.take (i + 1)) up = setL (l.take i) up) := hid (by rw [HNx.out, if_pos hal, List.append_nil])
            clear hal
            go_wp2_with fail
            go_roundw
            case rel => exact ⟨i + 1, by omega, by go_num, hid (by rw [HNy.out]; exact HOi.out), HKj⟩
            case measure => simp [intOf]; omega
          | false =>
            have HNy : Hid (setL (l.take (i + 1)) up = setL (l.take i) up ++ [x]) := hid (by rw [HNx.out, if_neg (by rw [hal]; decide)])
            have HRx := hid (range_X (rg_kept encX_ok HR.out HKj.out) HX.out)
            have hka := kept_alloc (kept_refl wr) (.cells (encX x).toArray 75)
            have HKa := hid (kept_trans HKj.out hka)
            have HOa := hid (og_stays HOi.out hka)
            have HAo := hid (alone_X (w := wr) (h := x))
            clear hal hka
            go_wp2_with (first
              | (refine wpList_loadX rfl _ rfl _ _ rfl x HRx.out ?_)
              | (refine wpList_oneX rfl _ rfl x rfl ?_)
              | (at_builtin; go_must (refine wpList_gapp rfl (.tmp 48) (.tmp 53) rfl encX_ok tyX (by decide) w.heap.size _ _ _ [x] rfl HOa.out rfl HAo.out (by have := HLn.out i; simp; omega) HKa.out.2 ?_; intro v3 w3 hown3 hgrow3 hnil3; have HO3 := hid hown3; have HK3 := hid (kept_gr HKa.out hgrow3 (fun q hq => og_lt HOa.out hq)); clear hown3 hgrow3 hnil3)))
            go_roundw
            case rel => exact ⟨i + 1, by omega, by go_num, hid (by rw [HNy.out]; exact HO3.out), HK3⟩
            case measure => simp [intOf]; omega
    · have he : i = m := by omega
      subst he
      have hO := HO.out
      rw [HTT.out] at hO
      have HO2 := hid hO
      clear hO
      go_wp2_with fail
      go_ret
      exact ⟨_, rfl, HO2.out, HKr.out⟩
/- A truth of a hint is laid. -/
theorem encX_more (x : Ht) {k : Nat} (h : k < 64) : encX ⟨x.r, more x.has k⟩ = (encX x).set (8 + k) (.bool true) := by
  apply List.ext_getElem?
  intro j
  by_cases hj : j < 8
  · unfold encX
    rw [List.getElem?_append_left (by rw [encR_ok.len]; omega), List.getElem?_set, if_neg (by omega), List.getElem?_append_left (by rw [encR_ok.len]; omega)]
  · obtain ⟨q, rfl⟩ : ∃ q, j = 8 + q := ⟨j - 8, by omega⟩
    by_cases hq : q < 64
    · rw [encX_has _ hq, List.getElem?_set]
      by_cases e : k = q
      · subst e
        rw [if_pos rfl, if_pos (by rw [encX_ok.len]; omega)]
        simp [more]
      · rw [if_neg (by omega), encX_has _ hq]
        have : ¬ q = k := fun h => e h.symm
        simp [more, this]
    · rw [List.getElem?_eq_none (by rw [encX_ok.len]; omega), List.getElem?_eq_none (by rw [List.length_set, encX_ok.len]; omega)]
/- A row that is the same, or new. -/
def Nw (v v' : Value) (w : World) : Prop := v' = v ∨ ∀ g, v'.ownBlock = some g → w.heap.size ≤ g
def AckC (l : List Ht) (key : ByteArray) (s : Stp) (node : Int) (u : Value) (w : World) (e : Ending) (w' : World) : Prop := ∃ v, e = .returned (.tuple #[.bool (mayK l key s node), v]) ∧ Rg encX 72 w' v (ackL l key s node) ∧ Kept w w' ∧ Nw u v w
end Go.Proofs.Ytahgplfkgijecaa
