/- The law that no number is there twice, and none is lost by another one's use, walked: it answers true and turns nothing that was there. -/
import Derived.Test.YtnpfjfolpfokoaaMaps
import Derived.Deep.CutBlock
import Derived.Deep.DeepCutAuto
namespace Go.Proofs.Ytnpfjfolpfokoaa
open Go.ChangeShapes Go.WideShapes Go.ChangeAt Go.RowKit
set_option linter.unusedVariables false
set_option linter.unusedSimpArgs false

theorem wo_nat (l : List Nat) (k : Nat) : woI (cs l) (k : Int) = cs (wo l k) := by
  unfold woI cs wo
  rw [List.filter_map]
  congr 1
  refine List.filter_congr (fun x _ => ?_)
  rw [Bool.eq_iff_iff]
  simp
  omega
/- A row's tail. -/
theorem tail_run {w : World} {B : Nat} {v : Value} {x : Int} {xs : List Int} (h : OwnI w B v (x :: xs)) :
    ∃ g c a' , v = .slice (some ⟨g, 0, none⟩) (xs.length + 1) c ∧ w.cell? ⟨g, 0, none⟩ = some (.int .i64 x) ∧ (∀ u, (Instr.slice 28 v (some (.int .i64 1)) none none).run Try.prog u = .ok (.slice (some a') xs.length (c - 1)) u) ∧ Rw w (.slice (some a') xs.length (c - 1)) xs := by
  have hown := h
  rcases h.2 with ⟨_, hn⟩ | ⟨g, c, cur, rfl, hb, hg, hnc, hcm, hcs, htk⟩
  · simp at hn
  · have hcell : ∀ i y, (x :: xs)[i]? = some y → w.cell? ⟨g, i, none⟩ = some (.int .i64 y) := by
      intro i y hy
      have := World.ownsRow.cells hown (g := g) rfl i (.int .i64 y) (by unfold iv; rw [List.getElem?_map, hy]; rfl)
      rw [← this]
      rcases Nat.eq_zero_or_pos i with h0 | h0
      · subst h0; simp [Addr.add]
      · rw [show (⟨g, 0, none⟩ : Addr).add i = ⟨g, i, none⟩ by simp [Addr.add]; omega]
    simp only [List.length_cons] at hnc
    refine ⟨g, c, if c = 1 then ⟨g, 0, none⟩ else ⟨g, 1, none⟩, rfl, hcell 0 x (by simp), fun u => ?_, ?_⟩
    · have hr := run_slice_l (P := Try.prog) u 28 (some ⟨g, 0, none⟩) (xs.length + 1) c Try.underlying28 .i64 1 (by omega) (by omega)
      rw [List.length_cons, hr]
      by_cases h1 : c = 1
      · simp [go_sem, h1]; try omega
      · simp [go_sem, h1, Addr.add]; try omega
    · refine ⟨_, _, rfl, fun hp => ?_⟩
      rw [if_neg (by omega)]
      exact ⟨g, 1, rfl, fun i y hy => by rw [Nat.add_comm]; exact hcell (i + 1) y (by simpa using hy)⟩
theorem nodup_take {l : List Nat} (hd : l.Nodup) {j : Nat} (h : j < l.length) : nth l 0 j ∉ l.take j := by
  rw [nth_lt h]
  intro hm
  obtain ⟨i, hi, e⟩ := List.getElem_of_mem hm
  rw [List.getElem_take] at e
  have hi2 : i < j := by simp at hi; omega
  exact absurd ((List.getElem_inj hd).1 e) (by omega)
theorem mem_take {l : List Nat} {j : Nat} (h : j < l.length) (x : Nat) : x ∈ l.take (j + 1) ↔ x ∈ l.take j ∨ x = nth l 0 j := by
  rw [List.take_succ_eq_append_getElem h, nth_lt h]
  generalize l.take j = p
  simp
set_option maxHeartbeats 3200000 in
set_option maxRecDepth 100000 in
theorem once_walk (a : Int) (oa : Option Addr) (len cap b o : Nat) (S : Nat → Opx) (z : Int) (w : World) (wa : (Lit.int .u8 a).wf = true) (hr : Row w oa len cap b o S) (wz : (Lit.int .i64 z).wf = true) :
    Calls Try.prog 4 #[.int .u8 a, .slice oa len cap, .int .i64 z] w fun e w' => e = .returned (.bool true) ∧ Kept w w' := by
  have hz := zero30
  obtain ⟨ha0, ha1⟩ := bounds_u8 wa
  obtain ⟨N, rfl⟩ := Int.eq_ofNat_of_zero_le ha0
  obtain ⟨k, hk, hk1, hk2⟩ : ∃ k : Nat, (1 : Int) + (N : Int) = (k : Int) ∧ 1 ≤ k ∧ k ≤ 1024 := ⟨1 + N, by omega, by omega, by omega⟩
  have h1 := hr.1
  have h2 := hr.2.1
  unfold maxLen at h2
  have HRw := hid hr
  clear wa hr wz
  go_enter Try.func4, Try.ntmps4
  go_wp2_with fail
  refine (new_any k hk1 hk2 _).mono ?_
  rintro e w1 ⟨X, R, rfl, hX, hR, k1, g1⟩
  have HR := hid hR
  have HG1 := hid g1
  have HK1 := hid k1
  clear hX hR g1 k1
  go_wp2_with fail
  refine (fixed_any _).mono ?_
  rintro e w2 ⟨rfl, k2⟩
  have HG2 := hid (good_kept HG1.out k2)
  have HK2 := hid (kept_trans HK1.out k2)
  clear HG1 HK1 k2
  go_upto_block 0 with fail
  go_cut [35] (fun s wx => ∃ l, Hid (Good wx X R k l) ∧ Hid (Kept w wx))
  case first =>
    go_wp2_with fail
    go_loopw [35] (fun i wr => ∃ (j : Nat) (l : List Nat), j ≤ len ∧ i = .int .i64 j ∧ Hid (Good wr X R k l) ∧ Hid (Kept w wr)) (fun i _ => len - (intOf i).toNat)
    case atStart => exact ⟨0, [], Nat.zero_le _, rfl, HG2, HK2⟩
    case round =>
      obtain ⟨j, l, hj, rfl, HG, HKr⟩ := hrel
      clear HG2 HK2
      by_cases hlt : j < len
      · obtain ⟨rfl, hb⟩ := HRw.out.2.2.2.1 (by omega)
        obtain ⟨c0, c1⟩ := (ops_kept HRw.out HKr.out).2.2.2.2.1 j hlt
        generalize S j = s at *
        obtain ⟨d, i⟩ := s
        have HGa := hid (good_alloc HG.out (.cells #[.bool d, .int .i64 i] 30))
        have HKa := hid (kept_alloc HKr.out (.cells #[.bool d, .int .i64 i] 30))
        by_cases e0 : 300 < j
        · have e1 : (300 : Int) < (j : Int) := by omega
          clear e0
          go_wp2_with fail
          go_meet
          case rel => exact ⟨l, HGa, HKa⟩
        · have e1 : decide ((300 : Int) < (j : Int)) = false := by simp; omega
          clear e0
          cases d with
          | true =>
            go_wp2_with fail
            refine (drop_int i _ HGa.out).mono ?_
            rintro e w3 ⟨rfl, t3, g3⟩
            have HGn := hid g3
            have HKn := hid (kept_turn HKa.out HR.out t3)
            clear c0 c1 t3 g3
            go_wp2_with fail
            go_roundw
            case rel => exact ⟨j + 1, _, by omega, by go_num, HGn, HKn⟩
            case measure => simp [intOf]; omega
          | false =>
            go_wp2_with fail
            refine (use_int i _ HGa.out).mono ?_
            rintro e w3 ⟨l', rfl, t3, g3, -⟩
            have HGn := hid g3
            have HKn := hid (kept_turn HKa.out HR.out t3)
            clear c0 c1 t3 g3
            go_wp2_with fail
            go_roundw
            case rel => exact ⟨j + 1, l', by omega, by go_num, HGn, HKn⟩
            case measure => simp [intOf]; omega
      · go_wp2_with fail
        go_meet
        case rel => exact ⟨l, HG, HKr⟩
  case rest =>
    obtain ⟨l, HG, HKr⟩ := hcut
    have hmm := @run_makeMap Try.prog
    clear HG2 HK2 HRw h1 h2
    go_wp2_with fail
    refine (order_any _ HG.out).mono ?_
    rintro e w3 ⟨v, rfl, o3, k3⟩
    have HG3 := hid (good_alloc (good_kept HG.out k3) (.map #[] 0))
    have HK3 := hid (kept_alloc (kept_trans HKr.out k3) (.map #[] 0))
    have HO3 := hid (own_low (own_stays o3 (kept_alloc (kept_refl w3) (.map #[] 0))) (Nat.zero_le _))
    have HU3 := hid (used_made w3)
    have HB := hid (kept_trans HKr.out k3).2
    have hlen := good_len HG.out
    have HD := hid (good_once HG.out)
    have HLow := hid (good_lt HG.out)
    obtain ⟨va, vc, rfl, -⟩ := rw_own o3
    have HCl := hid (cs_len l)
    have HCg : Hid (∀ m, m < l.length → (cs l)[m]? = some ((nth l 0 m : Nat) : Int)) := hid (fun m hm => by rw [nth_lt hm]; unfold cs; simp [hm])
    have HTn : Hid (∀ j, j < l.length → nth l 0 j < k) := hid (fun j hj => by rw [nth_lt hj]; exact HLow.out _ (List.getElem_mem hj))
    have HTd := hid (fun j (h : j < l.length) => nodup_take (l := l) HD.out h)
    have HTm := hid (fun j (h : j < l.length) => mem_take (l := l) h)
    rw [HCl.out] at HO3 ⊢
    generalize hL : l.length = L at *
    have HL := hid hL
    clear o3 k3 HG HKr hL
    go_wp2_with fail
    clear hmm
    generalize w3.alloc (.map #[] 0) = w4 at *
    generalize w3.heap.size = Bm at *
    go_loopw [58] (fun i wr => ∃ (j : Nat) (U : Nat → Bool), i = .int .i64 (j : Int) ∧ j ≤ L ∧ Hid (Good wr X R k l) ∧ Hid (Kept w wr) ∧ Hid (OwnI wr 0 (.slice va L vc) (cs l)) ∧ Hid (Used wr Bm j U ∧ ∀ x, U x = true ↔ x ∈ l.take j)) (fun i _ => L - (intOf i).toNat)
    case atStart => exact ⟨0, _, rfl, Nat.zero_le _, HG3, HK3, HO3, hid ⟨HU3.out, fun x => by simp⟩⟩
    case round =>
      obtain ⟨j, U, rfl, hj, HG5, HK5, HO5, HU5⟩ := hrel
      clear HG3 HK3 HO3 HU3
      by_cases hlt : j < L
      · have t5 := HTn.out j hlt
        have hg := HCg.out j hlt
        have td := HTd.out j hlt
        have HTj := hid (HTm.out j hlt)
        generalize nth l 0 j = x at *
        have hUx : U x = false := by
          cases e : U x with
          | false => rfl
          | true => exact absurd ((HU5.out.2 x).1 e) td
        have hlook := used_look HU5.out.1 x (by omega)
        rw [hUx] at hlook
        obtain ⟨w6, hup, hU6, ht6⟩ := used_put HU5.out.1 (by omega) x (by omega)
        have HG6 := hid (good_turned HG5.out ht6)
        have HK6 := hid (kept_turned HK5.out HB.out ht6)
        have HO6 := hid (own_turned HO5.out ht6)
        have HU6 : Hid (Used w6 Bm (j + 1) (fun q => if q = x then true else U q) ∧ ∀ y, (if y = x then true else U y) = true ↔ y ∈ l.take (j + 1)) := hid ⟨hU6, fun y => by
          rw [HTj.out y]
          by_cases e : y = x
          · simp [e]
          · rw [if_neg e]
            constructor
            · intro h; exact .inl ((HU5.out.2 y).1 h)
            · rintro (h | h)
              · exact (HU5.out.2 y).2 h
              · exact absurd h e⟩
        obtain ⟨a5, c5, e5, h5⟩ := rw_own HO5.out
        injection e5 with e5 e6 e7
        subst e5 e7
        clear e6
        obtain ⟨g5, o5, rfl, h6⟩ := h5 (by rw [HCl.out]; omega)
        have c0 := h6 j _ hg
        have q1 : decide ((x : Int) < 0) = false := by simp
        have q2 : decide ((k : Int) ≤ (x : Int)) = false := by simp; omega
        clear h5 h6 hg td hU6 ht6 hUx HG5 HK5 HO5 HU5
        go_wp2_with fail
        go_roundw
        case rel => exact ⟨j + 1, _, by go_num, by omega, HG6, HK6, HO6, HU6⟩
        case measure => simp [intOf]; omega
      · clear HU5
        have hcl : (cs l).length ≤ 4096 := by rw [HCl.out]; omega
        by_cases hm : 0 ≤ z ∧ z < (k : Int)
        · obtain ⟨x, rfl⟩ := Int.eq_ofNat_of_zero_le hm.1
          have hxk : x < k := by omega
          clear hm
          go_wp2_with fail
          refine (use_any x hxk _ HG5.out).mono ?_
          rintro e w6 ⟨rfl, t6, g6⟩
          have HG6 := hid g6
          have HK6 := hid (kept_turn HK5.out HR.out t6)
          have HO6 := hid (own_good HO5.out HG5.out t6)
          clear t6 g6
          have HW := hid (without_any (cs l) hcl _ (x : Int) w6 (rw_own HO6.out))
          go_wp2_with fail
          refine HW.out.mono ?_
          rintro e w7 ⟨v7, rfl, o7, -, k7⟩
          rw [wo_nat] at o7
          have HO7 := hid o7
          have HG7 := hid (good_kept HG6.out k7)
          have HK7 := hid (kept_trans HK6.out k7)
          clear k7 HW HO6 HG6 HK6 o7
          go_wp2_with fail
          refine (order_any _ HG7.out).mono ?_
          rintro e w8 ⟨v8, rfl, o8, k8⟩
          have HO8 := hid (rw_own (own_stays HO7.out k8))
          have HK8 := hid (kept_trans HK7.out k8)
          have hq : (cs (wo l x)).length ≤ 1024 := by have := good_len HG7.out; rw [cs_len]; simp at this; omega
          obtain ⟨g, c, a', rfl, c0, hsl, hRw⟩ := tail_run (x := (x : Int)) (xs := cs (wo l x)) o8
          have HS := hid (same_any (cs (wo l x)) (by omega) _ _ _ hRw HO8.out)
          obtain ⟨va7, vc7, rfl, -⟩ := rw_own HO7.out
          generalize (cs (wo l x)).length = q at *
          clear k8 o8 hRw HO7 HG7
          go_wp2_with fail
          refine HS.out.mono ?_
          rintro e w9 ⟨rfl, k9⟩
          go_wp2_with fail
          go_ret
          exact ⟨rfl, kept_trans HK8.out k9⟩
        · go_wp2_with fail
          refine (use_bad z hm _ HG5.out).mono ?_
          rintro e w6 ⟨rfl, rfl⟩
          go_wp2_with fail
          refine (order_any _ HG5.out).mono ?_
          rintro e w7 ⟨v7, rfl, o7, k7⟩
          have HO7 := hid (rw_own (own_stays HO5.out k7))
          have HP7 := hid (rw_own o7)
          have HK7 := hid (kept_trans HK5.out k7)
          clear o7 k7
          go_wp2_with fail
          refine (same_any (cs l) hcl _ _ _ HP7.out HO7.out).mono ?_
          rintro e w8 ⟨rfl, k8⟩
          go_wp2_with fail
          go_ret
          exact ⟨rfl, kept_trans HK7.out k8⟩
end Go.Proofs.Ytnpfjfolpfokoaa
