/- The law on any order, walked. -/
import Derived.Test.YtdcokccfannfmaaVwFixed
import Derived.Deep.CutBlock
import Derived.Deep.DeepCutAuto
namespace Go.Proofs.Ytdcokccfannfmaa
open Go.ChangeShapes Go.WideShapes Go.ChangeAt Go.RowKit
set_option linter.unusedVariables false
set_option linter.unusedSimpArgs false
set_option maxRecDepth 100000

/- A row's rest, wherever it lies. -/
theorem rg_rest {α : Type} {enc : α → List Value} {c : Nat} {w : World} {g o n cap k : Nat} {xs : List α} (h : Rg enc c w (.slice (some ⟨g, o, none⟩) n cap) xs) (hk : k < n) : Rg enc c w (.slice (some ⟨g, o + k * c, none⟩) (n - k) (cap - k)) (xs.drop k) := by
  obtain ⟨a', cap', e, h1, h2, h3, h⟩ := h
  injection e with e1 e2 e3
  subst e1 e2 e3
  refine ⟨_, cap - k, by rw [List.length_drop], by rw [List.length_drop]; omega, Nat.le_trans (Nat.sub_le _ _) h2, fun e => (by cases e), fun hp => ?_⟩
  obtain ⟨g', o', e4, hc⟩ := h (by omega)
  injection e4 with e4
  injection e4 with e4 e5
  subst e4 e5
  refine ⟨g, o + k * c, rfl, fun i x j u hx hu => ?_⟩
  rw [List.getElem?_drop] at hx
  have := hc (k + i) x j u hx hu
  rw [Nat.add_mul, ← Nat.add_assoc o] at this
  exact this
theorem slN_lo (q o n cap k : Nat) (hk : k < n) (hn : n ≤ cap) (hc : cap ≤ maxLen) (w : World) : (Instr.slice 23 (.slice (some ⟨q, o, none⟩) n cap) (some (.int .i64 (k : Int))) none none).run Try.prog w = .ok (.slice (some ⟨q, o + k * 3, none⟩) (n - k) (cap - k)) w := by
  unfold maxLen at hc
  have h1 : (k : Int) ≤ (n : Int) := by omega
  have h2 : ¬ ((k : Int) < 0) := by omega
  have h3 : (⟨q, o, none⟩ : Addr).add (k * 3) = ⟨q, o + k * 3, none⟩ := addr_plus q o _
  have h4 : ¬ cap = k := by omega
  have hr := run_slice_l (P := Try.prog) w 23 (some ⟨q, o, none⟩) n cap Try.underlying23 .i64 (k : Int) (by omega) (by omega)
  rw [hr]
  simp [go_sem, h3, h4]
  try omega
theorem slN_hi (q o n cap k : Nat) (hk : k < n) (hn : n ≤ cap) (hc : cap ≤ maxLen) (w : World) : (Instr.slice 23 (.slice (some ⟨q, o, none⟩) n cap) none (some (.int .i64 (k : Int))) none).run Try.prog w = .ok (.slice (some ⟨q, o, none⟩) k cap) w := by
  unfold maxLen at hc
  have h1 : (k : Int) ≤ (cap : Int) := by omega
  have h2 : ¬ ((k : Int) < 0) := by omega
  have h3 : (⟨q, o, none⟩ : Addr).add 0 = ⟨q, o, none⟩ := addr_plus q o 0
  go_simp
  try omega
theorem any_same {self : Int} {v : List M} {l t : List Nw} {i : Nat} (hi : (i : Int) ≠ self) (hl : ∀ x ∈ l, 0 ≤ x.node) (ht : ∀ x ∈ t, 0 ≤ x.node) (h : ∀ x, x ∈ l ↔ x ∈ t) : (hearV self v l)[i]? = (hearV self v t)[i]? := by
  by_cases hlt : i < v.length
  · rw [hearV_get hi l v v[i] hl (List.getElem?_eq_getElem hlt), hearV_get hi t v v[i] ht (List.getElem?_eq_getElem hlt), newest_ext i h]
  · rw [List.getElem?_eq_none (by rw [hearV_len]; omega), List.getElem?_eq_none (by rw [hearV_len]; omega)]
theorem turned_mem (l : List Nw) (k j : Nat) (x : Nw) : x ∈ l ↔ x ∈ l.drop k ++ l ++ l.take j := by
  rw [List.mem_append, List.mem_append]
  constructor
  · exact fun h => .inl (.inr h)
  · rintro ((h | h) | h)
    · exact List.mem_of_mem_drop h
    · exact h
    · exact List.mem_of_mem_take h
theorem w64 (x : Int) (h1 : 0 ≤ x) (h2 : x < 100000) : wrap64 x = x := by unfold wrap64; omega
theorem rem_in (x : Int) (h1 : 0 ≤ x) (len : Nat) (h : 0 < len) : ∃ k : Nat, k < len ∧ x.tmod (len : Int) = (k : Int) := by
  have g1 := Int.tmod_lt_of_pos x (b := (len : Int)) (by omega)
  have g2 := Int.tmod_nonneg (len : Int) h1
  exact ⟨(x.tmod (len : Int)).toNat, by omega, by omega⟩
set_option maxHeartbeats 6400000 in
theorem any_walk (hF : FreshIs) (hH : HearIs) (v : List M) (self : Int) (l : List Nw) (tu ag : Int) (h1 : 0 ≤ self) (h2 : self < 256) (t1 : 0 ≤ tu) (t2 : tu < 256) (a1 : 0 ≤ ag) (a2 : ag < 256) (hv : ∀ m ∈ v, okM m) (hl : ∀ x ∈ l, okN x) (vv lv : Value) (w : World) (h : Rg encM 2 w vv v) (hn : Rg encN 3 w lv l) : Calls Try.prog 6 #[vv, .int .u8 self, lv, .int .u8 tu, .int .u8 ag] w fun e w' => e = .returned (.bool true) ∧ Kept w w' := by
  have HH := hid hH
  have HR := hid h
  have HL := hid hn
  have HFx := hid (fun w => fixed_any hF hH w)
  have HSf := hid (And.intro h1 h2)
  have HOv := hid hv
  have HOl := hid hl
  obtain ⟨a, cap, rfl, -, -, -, -⟩ := h
  obtain ⟨b, capb, rfl, hlc, hcm, -, -⟩ := hn
  have HP : Hid (0 < l.length → ∃ g o, b = some ⟨g, o, none⟩) := hid (fun hp => by
    obtain ⟨g, o, c, e⟩ := rg_pos HL.out hp
    injection e with e1
    exact ⟨g, o, e1⟩)
  clear hF hH h1 h2 hv hl
  obtain ⟨n, hvn⟩ : ∃ n, v.length = n := ⟨_, rfl⟩
  have HVn := hid hvn
  rw [hvn] at HR ⊢
  obtain ⟨m0, hlm⟩ : ∃ m, l.length = m := ⟨_, rfl⟩
  have HLm := hid hlm
  rw [hlm] at HL HP hlc ⊢
  have HLc := hid hlc
  have HCm := hid hcm
  clear hvn hlm hlc hcm
  go_enter Try.func6, Try.ntmps6
  go_wp2_with fail
  refine (great_any a b n cap m0 capb w).mono ?_
  rintro e w1 ⟨b1, rfl, hb1, rfl⟩
  have HB1 := hid hb1
  clear hb1
  cases b1 with
  | true =>
    go_wp2_with fail
    refine (HFx.out w1).mono ?_
    rintro e w2 ⟨rfl, k2⟩
    have HK2 := hid k2
    clear k2
    go_wp2_with fail
    go_ret
    exact ⟨rfl, HK2.out⟩
  | false =>
    have HN : Hid (v.length ≤ 64 ∧ l.length ≤ 300) := hid (by rw [HVn.out, HLm.out]; exact HB1.out rfl)
    have hn64 : n ≤ 64 := (HB1.out rfl).1
    have hm300 : m0 ≤ 300 := (HB1.out rfl).2
    clear HB1
    by_cases h0 : m0 = 0
    · have hz : ((m0 : Int) == 0) = true := by simpa using h0
      clear h0
      go_wp2_with fail
      refine (HFx.out w1).mono ?_
      rintro e w2 ⟨rfl, k2⟩
      have HK2 := hid k2
      clear k2
      go_wp2_with fail
      go_ret
      exact ⟨rfl, HK2.out⟩
    · have hz : ((m0 : Int) == 0) = false := by
        have : (m0 : Int) ≠ 0 := by omega
        simpa using this
      obtain ⟨g, o, rfl⟩ := HP.out (by omega)
      have hm0 : 0 < m0 := by omega
      obtain ⟨k, hk1, hk2'⟩ := rem_in tu t1 m0 hm0
      have HKr := hid hk2'
      clear hk2'
      obtain ⟨j, hj1, hj2'⟩ := rem_in ag a1 m0 hm0
      have HJr := hid hj2'
      clear hj2' hm0
      have hne : ¬ (m0 : Int) = 0 := by omega
      have hw1 := w64 tu t1 (by omega)
      have hw3 := w64 ag a1 (by omega)
      have hw2 := w64 (k : Int) (by omega) (by omega)
      have hw4 := w64 (j : Int) (by omega) (by omega)
      have hsl := slN_lo g o m0 capb k hk1 HLc.out HCm.out
      have hsh := slN_hi g o m0 capb j hj1 HLc.out HCm.out
      have HRk := hid (rg_rest HL.out hk1)
      have HRj := hid (rg_take (k := j) HL.out (by rw [HLm.out]; omega))
      have HO0 := hid (builtN w1)
      have HK1 := hid (kept_alloc (kept_refl w1) (.cells #[] 42))
      have HR1 := hid (rg_kept encN_ok HRk.out HK1.out)
      have HBw : Hid (w1.heap.size ≤ (w1.alloc (.cells #[] 42)).heap.size) := hid HK1.out.2
      have HLd : Hid ((l.drop k).length ≤ 300) := hid (by have := HN.out.2; rw [List.length_drop]; omega)
      have HLj : Hid ((l.take j).length ≤ 300) := hid (by have := HN.out.2; rw [List.length_take]; omega)
      have HOt : Hid (∀ x ∈ l.drop k ++ l ++ l.take j, okN x) := hid (fun x hx => HOl.out x ((turned_mem l k j x).2 hx))
      have HLt : Hid ((l.drop k ++ l ++ l.take j).length ≤ 1000) := hid (by have := HN.out.2; have := HLd.out; have := HLj.out; rw [List.length_append, List.length_append]; omega)
      have HSame := hid (fun i (hi : ((i : Nat) : Int) ≠ self) => any_same (self := self) (v := v) (l := l) (t := l.drop k ++ l ++ l.take j) hi (fun x hx => (HOl.out x hx).1.1) (fun x hx => (HOt.out x hx).1.1) (turned_mem l k j))
      clear h0 t1 t2 a1 a2
      have hk2 : ∀ z : Nat, z = 0 → tu.tmod (m0 : Int) = (k : Int) := fun _ _ => HKr.out
      have hj2 : ∀ z : Nat, z = 0 → ag.tmod (m0 : Int) = (j : Int) := fun _ _ => HJr.out
      have hk2 := hk2 0 rfl
      go_upto_region 4 with fail
      clear hk2
      have hj2 := hj2 0 rfl
      go_wp2_with (at_builtin; first | (refine wpList_gapp rfl (.tmp 32) (.tmp 35) rfl encN_ok tyN (by decide) w1.heap.size _ _ _ _ rfl HO0.out rfl HR1.out (by have := HLd.out; simp at this ⊢; omega) HBw.out ?_; intro v3 w3 hown3 hgrow3 hnil3; rw [List.nil_append] at hown3; have HO3 := hid hown3; have HK3 := hid (kept_gr HK1.out hgrow3 (fun j hj => og_lt HO0.out hj)); have HR3 := hid (rg_kept encN_ok HL.out HK3.out); have HBx : Hid (w1.heap.size ≤ w3.heap.size) := hid HK3.out.2; clear hown3 hgrow3 hnil3) | (refine wpList_gapp rfl (.tmp 36) (.tmp 37) rfl encN_ok tyN (by decide) w1.heap.size _ _ _ _ rfl HO3.out rfl HR3.out (by have := HN.out.2; have := HLd.out; simp at this ⊢; omega) HBx.out ?_; intro v5 w5 hown5 hgrow5 hnil5; have HO5 := hid hown5; have HK5 := hid (kept_gr HK3.out hgrow5 (fun j hj => og_lt HO3.out hj)); have HR5 := hid (rg_kept encN_ok HRj.out HK5.out); have HBy : Hid (w1.heap.size ≤ w5.heap.size) := hid HK5.out.2; clear hown5 hgrow5 hnil5) | (refine wpList_gapp rfl (.tmp 39) (.tmp 46) rfl encN_ok tyN (by decide) w1.heap.size _ _ _ _ rfl HO5.out rfl HR5.out (by have := HN.out.2; have := HLd.out; have := HLj.out; simp at this ⊢; omega) HBy.out ?_; intro v7 w7 hown7 hgrow7 hnil7))
      have HRt := hid (rg_own encN_ok hown7)
      have HK7 := hid (kept_gr HK5.out hgrow7 (fun j hj => og_lt HO5.out hj))
      clear hown7 hgrow7 hnil7 HO5 HK5 HR5 HBy HO3 HK3 HR3 HBx HO0 HK1 HR1 HBw HRk HRj hsl hsh hj2 hw1 hw2 hw3 hw4
      refine (HH.out self v l _ _ w7 HSf.out.1 HSf.out.2 HN.out.1 (by have := HN.out.2; omega) HOv.out HOl.out (rg_kept encM_ok HR.out HK7.out) (rg_kept encN_ok HL.out HK7.out)).mono ?_
      rintro e w8 ⟨x1, x2, rfl, r1, -, k8⟩
      have HA := hid r1
      have HRt8 := hid (rg_kept encN_ok HRt.out k8)
      have HK8 := hid (kept_trans HK7.out k8)
      clear r1 k8 HRt HK7
      go_wp2_with fail
      refine (HH.out self v (l.drop k ++ l ++ l.take j) _ _ w8 HSf.out.1 HSf.out.2 HN.out.1 HLt.out HOv.out HOt.out (rg_kept encM_ok HR.out HK8.out) HRt8.out).mono ?_
      rintro e w9 ⟨y1, y2, rfl, s1, -, k9⟩
      have HB := hid s1
      have HA9 := hid (rg_kept encM_ok HA.out k9)
      have HK9 := hid (kept_trans HK8.out k9)
      have HAl : Hid ((hearV self v l).length = n) := hid (by rw [hearV_len, HVn.out])
      have HBl : Hid ((hearV self v (l.drop k ++ l ++ l.take j)).length = n) := hid (by rw [hearV_len, HVn.out])
      clear s1 k9 HRt8 HK8 HA
      generalize hearV self v (l.drop k ++ l ++ l.take j) = q at *
      generalize hearV self v l = p at *
      have HGp : Hid (∀ k, k < n → ∃ y, p[k]? = some y) := hid (fun k hk => ⟨p[k]'(by rw [HAl.out]; exact hk), List.getElem?_eq_getElem (by rw [HAl.out]; exact hk)⟩)
      have HPp : Hid (0 < n → ∃ g o, ∃ c, x1 = .slice (some ⟨g, o, none⟩) n c) := hid (fun hp => by
        have := rg_pos HA9.out (by rw [HAl.out]; exact hp)
        rw [HAl.out] at this
        exact this)
      have HPq : Hid (0 < n → ∃ g o, ∃ c, y1 = .slice (some ⟨g, o, none⟩) n c) := hid (fun hp => by
        have := rg_pos HB.out (by rw [HBl.out]; exact hp)
        rw [HBl.out] at this
        exact this)
      obtain ⟨da, ca, hxa, -, -, -, -⟩ := HA9.out
      obtain ⟨db, cb, hxb, -, -, -, -⟩ := HB.out
      rw [HAl.out] at hxa
      rw [HBl.out] at hxb
      subst hxa hxb
      have HPp2 : Hid (0 < n → ∃ g o, da = some ⟨g, o, none⟩) := hid (fun hp => by
        obtain ⟨g, o, c, e⟩ := HPp.out hp
        injection e with e1
        exact ⟨g, o, e1⟩)
      have HPq2 : Hid (0 < n → ∃ g o, db = some ⟨g, o, none⟩) := hid (fun hp => by
        obtain ⟨g, o, c, e⟩ := HPq.out hp
        injection e with e1
        exact ⟨g, o, e1⟩)
      clear HPp HPq
      go_wp2_with fail
      obtain ⟨W0, rfl⟩ : ∃ W0, W0 = w9 := ⟨w9, rfl⟩
      go_loopw [69] (fun j wq => ∃ (i : Nat), i ≤ n ∧ j = .int .i64 (i : Int) ∧ Hid (Kept W0 wq)) (fun j _ => n - (intOf j).toNat)
      case atStart => exact ⟨0, Nat.zero_le _, rfl, hid (kept_refl _)⟩
      case round =>
        obtain ⟨i, hi, rfl, HKi⟩ := hrel
        by_cases hlt : i < n
        · obtain ⟨x, hx⟩ := HGp.out i hlt
          obtain ⟨gp, op, rfl⟩ := HPp2.out (by omega)
          obtain ⟨gq, oq, rfl⟩ := HPq2.out (by omega)
          have hw := u8_wrap (i : Int) (by omega) (by omega)
          by_cases es : (i : Int) = self
          · have hb : ((i : Int) != self) = false := by simpa using es
            clear es hx
            go_wp2_with fail
            go_quiet (fail)
            go_wp2_with fail
            go_roundw
            case rel => exact ⟨i + 1, by omega, by go_num, hid (kept_drewN HKi.out _)⟩
            case measure => simp [intOf]; omega
          · have hb : ((i : Int) != self) = true := by simpa using es
            obtain ⟨c0, c1⟩ := rg_M (rg_kept encM_ok HA9.out HKi.out) hx
            obtain ⟨d0, d1⟩ := rg_M (rg_kept encM_ok HB.out HKi.out) ((HSame.out i es).symm.trans hx)
            have heq := eq_self_M x
            clear es hx
            go_wp2_with fail
            go_quiet (fail)
            go_wp2_with fail
            go_roundw
            case rel => exact ⟨i + 1, by omega, by go_num, hid (kept_drewN HKi.out _)⟩
            case measure => simp [intOf]; omega
        · have he : i = n := by omega
          subst he
          go_wp2_with fail
          refine (HFx.out wr).mono ?_
          rintro e wa ⟨rfl, ka⟩
          have HKa := hid (kept_trans HK9.out (kept_trans HKi.out ka))
          clear ka
          go_wp2_with fail
          go_ret
          exact ⟨rfl, HKa.out⟩
end Go.Proofs.Ytdcokccfannfmaa
