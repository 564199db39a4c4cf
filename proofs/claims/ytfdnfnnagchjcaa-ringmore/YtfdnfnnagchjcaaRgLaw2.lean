/- The laws on one node less and on one more, walked. -/
import Derived.Test.YtfdnfnnagchjcaaRgFixed
namespace Go.Proofs.Ytfdnfnnagchjcaa
open Go.ChangeShapes Go.WideShapes Go.ChangeAt Go.RowKit
set_option linter.unusedVariables false
set_option linter.unusedSimpArgs false
set_option maxRecDepth 100000

theorem filter_next {l : List Int} {k : Nat} {x : Int} (h : l[k]? = some x) (p : Int → Bool) : (l.take (k + 1)).filter p = (l.take k).filter p ++ (if p x then [x] else []) := by
  rw [take_next h, List.filter_append]
  congr 1
  cases e : p x <;> simp [e]
theorem lost_next {l m : List Int} {k : Nat} {x : Int} (h : l[k]? = some x) : lostN (l.take (k + 1)) m = lostN (l.take k) m + (if mem m x then 0 else 1) := by
  unfold lostN
  rw [filter_next h, List.length_append]
  congr 1
  unfold mem
  by_cases e : x ∈ m <;> simp [e]
set_option maxHeartbeats 6400000 in
theorem less_walk (hO : OwnersIs) (hI : OwnsIs) (key : ByteArray) (l : List Int) (x : Int) (hl : U8 l) (h1 : 0 ≤ x) (h2 : x < 256) (v : Value) (w : World) (h : Rg encU 1 w v l) : Calls Try.prog 5 #[.string key, v, .int .u8 x] w fun e w' => e = .returned (.bool true) ∧ Kept w w' := by
  have HO := hid hO
  have HI := hid hI
  have HR := hid h
  have HU := hid hl
  have HFx := hid (fun w => fixed_any hO w)
  have HNn := hid (And.intro h1 h2)
  obtain ⟨a, cap, rfl, -, -, -, -⟩ := h
  have HG : Hid (∀ k, k < l.length → ∃ y, l[k]? = some y) := hid (fun k hk => ⟨l[k], List.getElem?_eq_getElem hk⟩)
  have HP : Hid (0 < l.length → ∃ g o, a = some ⟨g, o, none⟩) := hid (fun hp => by
    obtain ⟨g, o, c, e⟩ := rg_pos HR.out hp
    injection e with e1
    exact ⟨g, o, e1⟩)
  have HT : Hid (l.take l.length = l) := hid List.take_length
  have HFl : Hid (∀ k, ((l.take k).filter (fun n => n != x)).length ≤ l.length) := hid (fun k => by
    have := List.length_filter_le (fun n => n != x) (l.take k)
    rw [List.length_take] at this
    omega)
  have HUf : Hid (U8 (l.filter (fun n => n != x))) := hid (fun n hn => hl n (List.mem_filter.1 hn).1)
  have HA := hid (at_new w #[.slice a l.length cap] 22)
  have HK0 := hid (kept_alloc (kept_refl w) (.cells #[.slice a l.length cap] 22))
  clear hO hI hl h1 h2
  obtain ⟨len, hlen⟩ : ∃ len, l.length = len := ⟨_, rfl⟩
  have HLen := hid hlen
  rw [hlen] at HA HK0 HR HG HP HT HFl ⊢
  clear hlen
  go_enter Try.func5, Try.ntmps5
  go_wp2_with fail
  refine (great1 key a len cap _ _ _ HA.out).mono ?_
  rintro e w1 ⟨b1, rfl, hb1, rfl⟩
  have HB1 := hid hb1
  clear hb1 HA
  generalize w.alloc (.cells #[.slice a len cap] 22) = w1 at *
  cases b1 with
  | true =>
    go_wp2_with fail
    refine (HFx.out w1).mono ?_
    rintro e w2 ⟨rfl, k2⟩
    have HK2 := hid (kept_trans HK0.out k2)
    clear k2
    go_wp2_with fail
    go_ret
    exact ⟨rfl, HK2.out⟩
  | false =>
    obtain ⟨hk, hn⟩ := HB1.out rfl
    have HKs := hid hk
    have HLs : Hid (l.length ≤ 200) := hid (by rw [HLen.out]; exact hn)
    have HLf : Hid ((l.filter (fun n => n != x)).length ≤ 500) := hid (by
      have := List.length_filter_le (fun n => n != x) l
      rw [HLen.out] at this
      omega)
    clear HB1 hk
    generalize hB0 : w.heap.size = B0 at *
    have HB0 := hid hB0
    clear hB0
    go_wp2_with fail
    go_loopw [7, 21] (fun ks j wr => ∃ k : Nat, k ≤ len ∧ j = .int .i64 (k : Int) ∧ Hid (Og encU 1 5 wr B0 ks ((l.take k).filter (fun n => n != x))) ∧ Hid (Kept w wr)) (fun _ j _ => len - (intOf j).toNat)
    case atStart => exact ⟨0, Nat.zero_le _, rfl, hid (og_nil _ _ _ _ _), HK0⟩
    case round =>
      obtain ⟨k, hk, rfl, HOr, HKr⟩ := hrel
      clear HK0
      by_cases hlt : k < len
      · obtain ⟨y, hy⟩ := HG.out k hlt
        obtain ⟨g, o, rfl⟩ := HP.out (by omega)
        have c0 := rg_U (rg_kept encU_ok HR.out HKr.out) hy
        by_cases e : y = x
        · have hb : (y != x) = false := by simpa using e
          have HNx : Hid ((l.take (k + 1)).filter (fun n => n != x) = (l.take k).filter (fun n => n != x)) := hid (by rw [filter_next hy]; simp [e])
          clear e hy
          go_wp2_with fail
          go_roundw
          case rel => exact ⟨k + 1, by omega, by go_num, hid (by rw [HNx.out]; exact HOr.out), HKr⟩
          case measure => simp [intOf]; omega
        · have hb : (y != x) = true := by simpa using e
          have HNx : Hid ((l.take (k + 1)).filter (fun n => n != x) = (l.take k).filter (fun n => n != x) ++ [y]) := hid (by rw [filter_next hy]; simp [e])
          clear hy
          have HKa := hid (kept_alloc HKr.out (.cells #[.int .u8 y] 5))
          have HOx := hid (og_stays HOr.out (kept_alloc (kept_refl wr) (.cells #[.int .u8 y] 5)))
          have HAl := hid (rg_alone encU_ok (y := y) (at_new wr #[.int .u8 y] 5))
          have HBw : Hid (B0 ≤ (wr.alloc (.cells #[.int .u8 y] 5)).heap.size) := hid (by have := HKa.out.2; have := HB0.out; omega)
          clear e
          go_wp2_with (at_builtin; go_must (refine wpList_gapp rfl (.tmp 28) (.tmp 30) rfl encU_ok tyU (by decide) B0 _ _ _ _ rfl HOx.out rfl HAl.out (by have := HFl.out k; simp at this ⊢; omega) HBw.out ?_; intro v3 w3 hown3 hgrow3 hnil3))
          have HO3 : Hid (Og encU 1 5 w3 B0 v3 ((l.take (k + 1)).filter (fun n => n != x))) := hid (by rw [HNx.out]; exact hown3)
          have HK3 := hid (kept_gr HKa.out hgrow3 (fun j hj => by have := og_lt HOx.out hj; have := HB0.out; omega))
          go_roundw
          case rel => exact ⟨k + 1, by omega, by go_num, HO3, HK3⟩
          case measure => simp [intOf]; omega
      · have he : k = len := by omega
        subst he
        rw [HT.out] at HOr
        have HRr := hid (rg_own encU_ok HOr.out)
        clear HOr
        go_wp2_with fail
        refine (HO.out key l _ wr HKs.out (by have := HLs.out; omega) HU.out (rg_kept encU_ok HR.out HKr.out)).mono ?_
        rintro e w2 ⟨v2, rfl, r2, k2⟩
        have HRa := hid r2
        have HRr2 := hid (rg_kept encU_ok HRr.out k2)
        have HK2 := hid (kept_trans HKr.out k2)
        clear r2 k2 HKr HRr
        go_wp2_with fail
        refine (HO.out key (l.filter (fun n => n != x)) _ w2 HKs.out HLf.out HUf.out HRr2.out).mono ?_
        rintro e w3 ⟨v3, rfl, r3, k3⟩
        have HRb := hid r3
        have HRa3 := hid (rg_kept encU_ok HRa.out k3)
        have HRr3 := hid (rg_kept encU_ok HRr2.out k3)
        have HK3 := hid (kept_trans HK2.out k3)
        clear r3 k3 HK2 HRr2 HRa
        go_wp2_with fail
        refine (HI.out key l x _ w3 HKs.out (by have := HLs.out; omega) HU.out HNn.out.1 HNn.out.2 (rg_kept encU_ok HR.out HK3.out)).mono ?_
        rintro e w4 ⟨rfl, k4⟩
        have HRa4 := hid (rg_kept encU_ok HRa3.out k4)
        have HRb4 := hid (rg_kept encU_ok HRb.out k4)
        have HRr4 := hid (rg_kept encU_ok HRr3.out k4)
        have HK4 := hid (kept_trans HK3.out k4)
        clear k4 HK3 HRa3 HRb HRr3
        cases hm : mem (owners key l) x with
        | false =>
          have HS : Hid (owners key (l.filter (fun n => n != x)) = owners key l) := hid (owners_same (by unfold mem at hm; simpa using hm))
          clear hm
          rw [HS.out] at HRb4
          go_wp2_with fail
          refine (HFx.out w4).mono ?_
          rintro e w5 ⟨rfl, k5⟩
          have HRa5 := hid (rg_kept encU_ok HRa4.out k5)
          have HRb5 := hid (rg_kept encU_ok HRb4.out k5)
          have HK5 := hid (kept_trans HK4.out k5)
          clear k5 HK4 HRa4 HRb4
          go_wp2_with fail
          refine (sameU_any (owners key l) (by have := owners_len key l; omega) _ _ w5 HRa5.out HRb5.out).mono ?_
          rintro e w6 ⟨rfl, k6⟩
          have HK6 := hid (kept_trans HK5.out k6)
          clear k6
          go_wp2_with fail
          go_ret
          exact ⟨rfl, HK6.out⟩
        | true =>
          clear hm
          have HSt := hid (fun n (hn : n ∈ owners key l) (e : n ≠ x) => owners_stay (key := key) (l := l) hn e)
          have HIn := hid (fun n (hn : n ∈ owners key l) => owners_in (key := key) (l := l) hn)
          have HGo : Hid (mem (owners key (l.filter (fun n => n != x))) x = false) := hid (by unfold mem; rw [decide_eq_false_iff_not]; exact owners_gone)
          have hp2 := owners_len key l
          generalize owners key l = p at *
          obtain ⟨d1, cap1, rfl, -, -, -, -⟩ := HRa4.out
          have HGp : Hid (∀ k, k < p.length → ∃ y, p[k]? = some y) := hid (fun k hk => ⟨p[k], List.getElem?_eq_getElem hk⟩)
          have HPp : Hid (0 < p.length → ∃ g o, d1 = some ⟨g, o, none⟩) := hid (fun hp => by
            obtain ⟨g, o, c, e⟩ := rg_pos HRa4.out hp
            injection e with e1
            exact ⟨g, o, e1⟩)
          generalize hpn : p.length = pn at *
          clear hpn
          go_wp2_with fail
          obtain ⟨W0, rfl⟩ : ∃ W0, W0 = w4 := ⟨w4, rfl⟩
          go_loopw [52] (fun j wq => ∃ (i : Nat), i ≤ pn ∧ j = .int .i64 (i : Int) ∧ Hid (Kept W0 wq)) (fun j _ => pn - (intOf j).toNat)
          case atStart => exact ⟨0, Nat.zero_le _, rfl, hid (kept_refl _)⟩
          case round =>
            obtain ⟨i, hi, rfl, HKi⟩ := hrel
            by_cases hlt2 : i < pn
            · obtain ⟨y, hy⟩ := HGp.out i hlt2
              obtain ⟨g1, o1, rfl⟩ := HPp.out (by omega)
              have c2 := rg_U (rg_kept encU_ok HRa4.out HKi.out) hy
              have HY := hid (List.mem_of_getElem? hy)
              clear hy
              by_cases e : y = x
              · have hb : (y != x) = false := by simpa using e
                clear e
                go_wp2_with fail
                go_roundw
                case rel => exact ⟨i + 1, by omega, by go_num, HKi⟩
                case measure => simp [intOf]; omega
              · have hb : (y != x) = true := by simpa using e
                have HMy : Hid (mem (owners key (l.filter (fun n => n != x))) y = true) := hid (by unfold mem; rw [decide_eq_true_eq]; exact HSt.out y HY.out e)
                have hOw := HI.out key (l.filter (fun n => n != x)) y _ wr HKs.out HLf.out HUf.out (HIn.out y HY.out).1 (by have := (HIn.out y HY.out).2.1; omega) (rg_kept encU_ok HRr4.out HKi.out)
                rw [HMy.out] at hOw
                clear e
                go_wp2_with fail
                refine hOw.mono ?_
                rintro e w5 ⟨rfl, k5⟩
                have HK5 := hid (kept_trans HKi.out k5)
                clear k5 hOw
                go_wp2_with fail
                go_roundw
                case rel => exact ⟨i + 1, by omega, by go_num, HK5⟩
                case measure => simp [intOf]; omega
            · have he2 : i = pn := by omega
              subst he2
              go_wp2_with fail
              refine (HFx.out wr).mono ?_
              rintro e w5 ⟨rfl, k5⟩
              have HK5 := hid (kept_trans HKi.out k5)
              clear k5
              have hOw := HI.out key (l.filter (fun n => n != x)) x _ w5 HKs.out HLf.out HUf.out HNn.out.1 HNn.out.2 (rg_kept encU_ok HRr4.out HK5.out)
              rw [HGo.out] at hOw
              go_wp2_with fail
              refine hOw.mono ?_
              rintro e w6 ⟨rfl, k6⟩
              have HK6 := hid (kept_trans HK4.out (kept_trans HK5.out k6))
              clear k6 hOw
              go_wp2_with fail
              go_ret
              exact ⟨rfl, HK6.out⟩
end Go.Proofs.Ytfdnfnnagchjcaa
