/- The law on one node more, walked. -/
import Derived.Test.YtfdnfnnagchjcaaRgLaw2
namespace Go.Proofs.Ytfdnfnnagchjcaa
open Go.ChangeShapes Go.WideShapes Go.ChangeAt Go.RowKit
set_option linter.unusedVariables false
set_option linter.unusedSimpArgs false
set_option maxRecDepth 100000

set_option maxHeartbeats 6400000 in
theorem more_walk (hO : OwnersIs) (hI : OwnsIs) (key : ByteArray) (l : List Int) (x : Int) (hl : U8 l) (h1 : 0 ≤ x) (h2 : x < 256) (v : Value) (w : World) (h : Rg encU 1 w v l) : Calls Try.prog 6 #[.string key, v, .int .u8 x] w fun e w' => e = .returned (.bool true) ∧ Kept w w' := by
  have HO := hid hO
  have HI := hid hI
  have HR := hid h
  have HU := hid hl
  have HFx := hid (fun w => fixed_any hO w)
  have HNn := hid (And.intro h1 h2)
  have HUm : Hid (U8 (l ++ [x])) := hid (fun n hn => by
    rcases List.mem_append.1 hn with hn | hn
    · exact hl n hn
    · simp at hn; rw [hn]; exact ⟨h1, h2⟩)
  obtain ⟨a, cap, rfl, -, -, -, -⟩ := h
  have HA := hid (at_new w #[.slice a l.length cap] 22)
  have HK0 := hid (kept_alloc (kept_refl w) (.cells #[.slice a l.length cap] 22))
  clear hO hI hl h1 h2
  obtain ⟨len, hlen⟩ : ∃ len, l.length = len := ⟨_, rfl⟩
  have HLen := hid hlen
  rw [hlen] at HA HK0 HR ⊢
  clear hlen
  go_enter Try.func6, Try.ntmps6
  go_wp2_with fail
  refine (great1 key a len cap _ _ _ HA.out).mono ?_
  rintro e w1 ⟨b1, rfl, hb1, rfl⟩
  have HB1 := hid hb1
  clear hb1 HA
  generalize w.alloc (.cells #[.slice a len cap] 22) = w1 at *
  cases b1 with
  | true =>
    go_wp2_with fail
    refine (HFx.out w1).mono ?_
    rintro e w2 ⟨rfl, k2⟩
    have HK2 := hid (kept_trans HK0.out k2)
    clear k2
    go_wp2_with fail
    go_ret
    exact ⟨rfl, HK2.out⟩
  | false =>
    obtain ⟨hk, hn⟩ := HB1.out rfl
    have HKs := hid hk
    have HLs : Hid (l.length ≤ 200) := hid (by rw [HLen.out]; exact hn)
    have HLm : Hid ((l ++ [x]).length ≤ 500) := hid (by have := HLs.out; simp; omega)
    clear HB1 hk hn
    have HO0 := hid (builtU w1)
    have HK1 := hid (kept_alloc HK0.out (.cells #[] 5))
    have HR1 := hid (rg_kept encU_ok HR.out HK1.out)
    have HBw : Hid (w1.heap.size ≤ (w1.alloc (.cells #[] 5)).heap.size) := hid (kept_alloc (kept_refl w1) (.cells #[] 5)).2
    have HLw : Hid (w.heap.size ≤ w1.heap.size) := hid HK0.out.2
    go_wp2_with (at_builtin; first | (refine wpList_gapp rfl (.tmp 18) (.tmp 19) rfl encU_ok tyU (by decide) w1.heap.size _ _ _ _ rfl HO0.out rfl HR1.out (by have := HLs.out; simp; omega) HBw.out ?_; intro v3 w3 hown3 hgrow3 hnil3; have HO3 := hid (og_stays hown3 (kept_alloc (kept_refl w3) (.cells #[.int .u8 x] 5))); have HK3 := hid (kept_alloc (kept_gr HK1.out hgrow3 (fun j hj => by have := og_lt HO0.out hj; have := HLw.out; omega)) (.cells #[.int .u8 x] 5)); have HAl := hid (rg_alone encU_ok (y := x) (at_new w3 #[.int .u8 x] 5)); have HBx : Hid (w1.heap.size ≤ (w3.alloc (.cells #[.int .u8 x] 5)).heap.size) := hid (Nat.le_trans HBw.out (Nat.le_trans hgrow3.size (kept_alloc (kept_refl w3) (.cells #[.int .u8 x] 5)).2)); clear hown3 hgrow3 hnil3) | (refine wpList_gapp rfl (.tmp 20) (.tmp 22) rfl encU_ok tyU (by decide) w1.heap.size _ _ _ _ rfl HO3.out rfl HAl.out (by have := HLs.out; simp; omega) HBx.out ?_; intro v5 w5 hown5 hgrow5 hnil5))
    rw [List.nil_append] at hown5 HO3
    have HRm := hid (rg_own encU_ok hown5)
    have HK5 := hid (kept_gr HK3.out hgrow5 (fun j hj => by have := og_lt HO3.out hj; have := HLw.out; omega))
    clear hown5 hgrow5 hnil5 HO3 HK3 HAl HBx HO0 HK1 HR1 HBw
    refine (HO.out key l _ w5 HKs.out (by have := HLs.out; omega) HU.out (rg_kept encU_ok HR.out HK5.out)).mono ?_
    rintro e w6 ⟨v6, rfl, r6, k6⟩
    have HRa := hid r6
    have HRm6 := hid (rg_kept encU_ok HRm.out k6)
    have HK6 := hid (kept_trans HK5.out k6)
    have HIn := hid (fun n (hn : n ∈ owners key l) => owners_in (key := key) (l := l) hn)
    have HLo := hid (owners_lost key l x)
    have HMo := hid (fun n (hn : n ∈ owners key (l ++ [x])) (e : n ≠ x) => owners_more (key := key) (l := l) hn e)
    have HMe := hid (fun n => (rfl : mem (owners key l) n = decide (n ∈ owners key l)))
    have HIx := hid (fun n w' h1 h2 h => HI.out key l n (.slice a len cap) w' HKs.out (by have := HLs.out; omega) HU.out h1 h2 h)
    have hp2 := owners_len key l
    clear r6 k6 HK5 HRm
    generalize owners key l = p at *
    obtain ⟨d1, cap1, rfl, -, -, -, -⟩ := HRa.out
    have HGp : Hid (∀ k, k < p.length → ∃ y, p[k]? = some y) := hid (fun k hk => ⟨p[k], List.getElem?_eq_getElem hk⟩)
    have HPp : Hid (0 < p.length → ∃ g o, d1 = some ⟨g, o, none⟩) := hid (fun hp => by
      obtain ⟨g, o, c, e⟩ := rg_pos HRa.out hp
      injection e with e1
      exact ⟨g, o, e1⟩)
    have HTp : Hid (p.take p.length = p) := hid List.take_length
    have HLp : Hid (∀ i, lostN (p.take i) (owners key (l ++ [x])) ≤ 2) := hid (fun i => by
      unfold lostN
      have := List.length_filter_le (fun n => !decide (n ∈ owners key (l ++ [x]))) (p.take i)
      rw [List.length_take] at this
      omega)
    generalize hpn : p.length = pn at *
    clear hpn
    go_wp2_with fail
    obtain ⟨W0, rfl⟩ : ∃ W0, W0 = w6 := ⟨w6, rfl⟩
    go_loopw [8, 28] (fun q j wq => ∃ (i : Nat), i ≤ pn ∧ j = .int .i64 (i : Int) ∧ q = .int .i64 ((lostN (p.take i) (owners key (l ++ [x])) : Nat) : Int) ∧ Hid (Kept W0 wq)) (fun _ j _ => pn - (intOf j).toNat)
    case atStart => exact ⟨0, Nat.zero_le _, rfl, by simp [lostN], hid (kept_refl _)⟩
    case round =>
      obtain ⟨i, hi, rfl, rfl, HKi⟩ := hrel
      by_cases hlt2 : i < pn
      · obtain ⟨y, hy⟩ := HGp.out i hlt2
        obtain ⟨g1, o1, rfl⟩ := HPp.out (by omega)
        have c2 := rg_U (rg_kept encU_ok HRa.out HKi.out) hy
        have HY := hid (List.mem_of_getElem? hy)
        have HNy := hid (lost_next (m := owners key (l ++ [x])) hy)
        have hq2 := HLp.out i
        have hOw := HI.out key (l ++ [x]) y _ wr HKs.out HLm.out HUm.out (HIn.out y HY.out).1 (by have := (HIn.out y HY.out).2.1; omega) (rg_kept encU_ok HRm6.out HKi.out)
        clear hy
        cases hm : mem (owners key (l ++ [x])) y with
        | true =>
          rw [hm] at hOw
          rw [hm, if_pos rfl, Nat.add_zero] at HNy
          go_wp2_with fail
          refine hOw.mono ?_
          rintro e w7 ⟨rfl, k7⟩
          have HK7 := hid (kept_trans HKi.out k7)
          clear k7 hOw
          go_wp2_with fail
          go_roundw
          case rel => exact ⟨i + 1, by omega, by go_num, (by rw [HNy.out]; rfl), HK7⟩
          case measure => simp [intOf]; omega
        | false =>
          rw [hm] at hOw
          rw [hm, if_neg (by simp)] at HNy
          generalize hls : lostN (p.take i) (owners key (l ++ [x])) = ls at *
          clear hls
          go_wp2_with fail
          refine hOw.mono ?_
          rintro e w7 ⟨rfl, k7⟩
          have HK7 := hid (kept_trans HKi.out k7)
          clear k7 hOw
          go_wp2_with fail
          go_roundw
          case rel => exact ⟨i + 1, by omega, by go_num, by rw [HNy.out]; go_num, HK7⟩
          case measure => simp [intOf]; omega
      · have he2 : i = pn := by omega
        subst he2
        rw [HTp.out]
        have hls1 : ((lostN p (owners key (l ++ [x])) : Nat) : Int) ≤ 1 := by have := HLo.out; omega
        generalize lostN p (owners key (l ++ [x])) = ls at *
        go_wp2_with fail
        refine (HO.out key (l ++ [x]) _ wr HKs.out HLm.out HUm.out (rg_kept encU_ok HRm6.out HKi.out)).mono ?_
        rintro e w7 ⟨v7, rfl, r7, k7⟩
        have HRb := hid r7
        have HK7 := hid (kept_trans HK6.out (kept_trans HKi.out k7))
        have hq2 := owners_len key (l ++ [x])
        have HIm := hid (fun n (hn : n ∈ owners key (l ++ [x])) => owners_in (key := key) (l := l ++ [x]) hn)
        clear r7 k7
        generalize owners key (l ++ [x]) = q at *
        obtain ⟨d2, cap2, rfl, -, -, -, -⟩ := HRb.out
        have HGq : Hid (∀ k, k < q.length → ∃ y, q[k]? = some y) := hid (fun k hk => ⟨q[k], List.getElem?_eq_getElem hk⟩)
        have HPq : Hid (0 < q.length → ∃ g o, d2 = some ⟨g, o, none⟩) := hid (fun hp => by
          obtain ⟨g, o, c, e⟩ := rg_pos HRb.out hp
          injection e with e1
          exact ⟨g, o, e1⟩)
        generalize hqn : q.length = qn at *
        clear hqn
        go_wp2_with fail
        obtain ⟨W1, rfl⟩ : ∃ W1, W1 = w7 := ⟨w7, rfl⟩
        go_loopw [44] (fun j wq => ∃ (i : Nat), i ≤ qn ∧ j = .int .i64 (i : Int) ∧ Hid (Kept W1 wq)) (fun j _ => qn - (intOf j).toNat)
        case atStart => exact ⟨0, Nat.zero_le _, rfl, hid (kept_refl _)⟩
        case round =>
          obtain ⟨i2, hi2, rfl, HKj⟩ := hrel
          by_cases hlt3 : i2 < qn
          · obtain ⟨y, hy⟩ := HGq.out i2 hlt3
            obtain ⟨g2, o2, rfl⟩ := HPq.out (by omega)
            have c3 := rg_U (rg_kept encU_ok HRb.out HKj.out) hy
            have HY := hid (List.mem_of_getElem? hy)
            clear hy
            by_cases e : y = x
            · have hb : (y != x) = false := by simpa using e
              clear e
              go_wp2_with fail
              go_roundw
              case rel => exact ⟨i2 + 1, by omega, by go_num, HKj⟩
              case measure => simp [intOf]; omega
            · have hb : (y != x) = true := by simpa using e
              have HMy : Hid (mem p y = true) := hid (by unfold mem; rw [decide_eq_true_eq]; exact HMo.out y HY.out e)
              have hOw := HIx.out y wr (HIm.out y HY.out).1 (by have := (HIm.out y HY.out).2.1; omega) (rg_kept encU_ok HR.out (kept_trans HK7.out HKj.out))
              rw [HMy.out] at hOw
              clear e
              go_wp2_with fail
              refine hOw.mono ?_
              rintro e w8 ⟨rfl, k8⟩
              have HK8 := hid (kept_trans HKj.out k8)
              clear k8 hOw
              go_wp2_with fail
              go_roundw
              case rel => exact ⟨i2 + 1, by omega, by go_num, HK8⟩
              case measure => simp [intOf]; omega
          · have he3 : i2 = qn := by omega
            subst he3
            go_wp2_with fail
            refine (HFx.out wr).mono ?_
            rintro e w8 ⟨rfl, k8⟩
            have HK8 := hid (kept_trans HK7.out (kept_trans HKj.out k8))
            clear k8
            go_wp2_with fail
            go_ret
            exact ⟨rfl, HK8.out⟩
end Go.Proofs.Ytfdnfnnagchjcaa
