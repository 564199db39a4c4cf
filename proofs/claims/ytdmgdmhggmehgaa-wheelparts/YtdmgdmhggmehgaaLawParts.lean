/- The walk of the law that what is due up to a time is what is due up to an earlier one, and behind it. -/
import Derived.Test.YtdmgdmhggmehgaaRefDue
import Derived.Deep.CutBlock
import Derived.Deep.DeepCutAuto
namespace Go.Proofs.Ytdmgdmhggmehgaa
open Go.ChangeShapes Go.WideShapes Go.ChangeAt Go.RowKit
set_option linter.unusedVariables false
set_option linter.unusedSimpArgs false

theorem parts_due {s t : Int} (h : s ≤ t) : ∀ {M : List It}, M.Pairwise Lt → due M t = due M s ++ due (aft M s) t
  | [], _ => rfl
  | x :: r, hM => by
    have hr := List.pairwise_cons.1 hM
    by_cases hx : x.1 ≤ s
    · have e1 : due (x :: r) t = x :: due r t := by unfold due; rw [List.filter_cons_of_pos (by simp; omega)]
      have e2 : due (x :: r) s = x :: due r s := by unfold due; rw [List.filter_cons_of_pos (by simpa using hx)]
      have e3 : aft (x :: r) s = aft r s := by unfold aft; rw [List.filter_cons_of_neg (by simpa using hx)]
      rw [e1, e2, e3, parts_due h hr.2]
      rfl
    · have hall : ∀ y ∈ x :: r, ¬ y.1 ≤ s := fun y hy => by
        rcases List.mem_cons.1 hy with rfl | hy
        · exact hx
        · have := hr.1 y hy
          unfold Lt at this
          omega
      have e2 : due (x :: r) s = [] := List.filter_eq_nil_iff.2 (fun y hy => by simpa using hall y hy)
      have e3 : aft (x :: r) s = x :: r := List.filter_eq_self.2 (fun y hy => by simpa using hall y hy)
      rw [e2, e3]
      rfl
theorem parts_aft {s t : Int} (h : s ≤ t) (M : List It) : aft (aft M s) t = aft M t := by
  unfold aft
  rw [List.filter_filter]
  congr 1
  funext x
  by_cases hx : x.1 ≤ t
  · simp [hx]
  · have : t < x.1 := by omega
    have : s < x.1 := by omega
    simp; omega
/- Two wheels side by side, with the same items. -/
structure Two (W w : World) (X Y : Nat) (F G : Nat → Prop) (M N : List It) : Prop where
  good : Good w F X M
  also : Good w G Y N
  mine : Mine W w F
  mine2 : Mine W w G
  apart : ∀ k, F k → ¬ G k
section
variable {W w w' : World} {X Y : Nat} {F G F' : Nat → Prop} {M N M' : List It}
theorem good_tn (h : Good w G Y N) (t : Tn F w w') (ha : ∀ k, F k → ¬ G k) : Good w' G Y N := by
  obtain ⟨m, V, L, g, h1, h2⟩ := h
  exact ⟨m, V, L, g, gl_same h1 (fun j hj => t.2.2.2 j (h1.mem.low j hj) (fun hf => ha j hf hj)) t.2.2.1, h2⟩
theorem mine_other (h : Mine W w G) (m : Mine W w F) (t : Tn F w w') : Mine W w' G := ⟨kept_tn m.1 m.2 t, h.2⟩
theorem two_swap (h : Two W w X Y F G M N) : Two W w Y X G F N M := ⟨h.also, h.good, h.mine2, h.mine, fun k hg hf => h.apart k hf hg⟩
theorem two_kept (h : Two W w X Y F G M N) (k : Kept w w') : Two W w' X Y F G M N := ⟨good_kept h.good k, good_kept h.also k, mine_kept h.mine k, mine_kept h.mine2 k, h.apart⟩
theorem two_stp (h : Two W w X Y F G M N) (s : Stp F F' w w') (g : Good w' F' X M') : Two W w' X Y F' G M' N :=
  ⟨g, good_tn h.also s.1 h.apart, mine_stp h.mine s, mine_other h.mine2 h.mine s.1, fun k hf hg => by
    rcases s.2 k hf with h1 | h1
    · exact h.apart k h1 hg
    · have := good_low h.also k hg; omega⟩
theorem two_tn (h : Two W w X Y F G M N) (t : Tn F w w') (g : Good w' F X M') : Two W w' X Y F G M' N := two_stp h (stp_tn t) g
end
theorem good_grown {w w' : World} {F : Nat → Prop} {X : Nat} {M : List It} {r : Option Nat} (h : Good w F X M) (g : w.grownBy w' r) (hr : ∀ k, r = some k → ¬ F k) : Good w' F X M := by
  obtain ⟨m, V, L, q, h1, h2⟩ := h
  exact ⟨m, V, L, q, gl_same h1 (fun j hj => g.block j (h1.mem.low j hj) (fun e => hr j e.symm hj)) g.size, h2⟩
theorem mine_grown {W w w' : World} {F : Nat → Prop} {r : Option Nat} (h : Mine W w F) (g : w.grownBy w' r) (hr : ∀ k, r = some k → W.heap.size ≤ k) : Mine W w' F := ⟨kept_grown h.1 g hr, h.2⟩
theorem two_grown {W w w' : World} {X Y : Nat} {F G : Nat → Prop} {M N : List It} {r : Option Nat} (h : Two W w X Y F G M N) (g : w.grownBy w' r) (hr : ∀ k, r = some k → W.heap.size ≤ k ∧ ¬ F k ∧ ¬ G k) : Two W w' X Y F G M N :=
  ⟨good_grown h.good g (fun k hk => (hr k hk).2.1), good_grown h.also g (fun k hk => (hr k hk).2.2), mine_grown h.mine g (fun k hk => (hr k hk).1), mine_grown h.mine2 g (fun k hk => (hr k hk).1), h.apart⟩
theorem own_some {w : World} {B : Nat} {v : Value} {xs : List Int} (h : OwnI w B v xs) (hn : v ≠ .slice none 0 0) : ∃ g cap, v = .slice (some ⟨g, 0, none⟩) xs.length cap ∧ ∀ j u, (iv xs)[j]? = some u → w.cell? ((⟨g, 0, none⟩ : Addr).add j) = some u := by
  rcases id h.2 with ⟨h1, _⟩ | ⟨g, cap, cur, rfl, _⟩
  · exact absurd h1 hn
  · exact ⟨g, cap, rfl, fun j u hu => World.ownsRow.cells h (g := g) rfl j u hu⟩
theorem iv_one (xs : List Int) : ∀ u ∈ iv xs, u.oneCell' = true := by
  intro u hu
  unfold iv at hu
  simp at hu
  obtain ⟨y, _, rfl⟩ := hu
  rfl
theorem iv_app (xs ys : List Int) : iv (xs ++ ys) = iv xs ++ iv ys := by unfold iv; simp
theorem ids_apps (l r : List It) : ids (l ++ r) = ids l ++ ids r := by unfold ids; simp
theorem add_len2 {x : It} {M : List It} {k : Int} {n : Nat} (h : M.length ≤ n) : (ins x (wo M k)).length ≤ n + 1 := by
  rw [(ins_perm _ _).length_eq]
  have := wo_len M k
  simp; omega
set_option maxHeartbeats 12800000 in
set_option maxRecDepth 100000 in
theorem parts_walk (oa : Option Addr) (len cap : Nat) (xs : List Int) (oa1 : Option Addr) (len1 cap1 : Nat) (ys : List Int) (s0 t0 : Int) (w : World)
    (hr : Rw w (.slice oa len cap) xs) (hl : xs.length = len) (hm : len ≤ maxLen ∧ ∀ x ∈ xs, Wf x) (hr1 : RwU w (.slice oa1 len1 cap1) ys) (hl1 : ys.length = len1) (hm1 : len1 ≤ maxLen ∧ ∀ x ∈ ys, Wu x) (ws : (Lit.int .u64 s0).wf = true) (wt : (Lit.int .u64 t0).wf = true) :
    Calls Try.prog 6 #[.slice oa len cap, .slice oa1 len1 cap1, .int .u64 s0, .int .u64 t0] w fun e w' => e = .returned (.bool true) ∧ Kept w w' := by
  have HRx : Hid (∀ u, Kept w u → Rw u (.slice oa len cap) xs) := hid (fun u k => rw_kept hr k)
  have HRy : Hid (∀ u, Kept w u → RwU u (.slice oa1 len1 cap1) ys) := hid (fun u k => rwu_kept hr1 k)
  have HWx := hid hm.2
  have HWy := hid hm1.2
  have HLx := hid hl
  have HLy := hid hl1
  have h2 := hm.1
  have h3 := hm1.1
  unfold maxLen at h2 h3
  clear hr hr1 hm hm1 hl hl1 ws wt
  obtain ⟨i0, hi, hz0, hz1, hz2⟩ := info_parts (P := Try.prog) (e := 3) info3
  have HI := hid (And.intro hi (And.intro hz0 (And.intro hz1 hz2)))
  clear hi hz0 hz1 hz2
  go_enter Try.func6, Try.ntmps6
  go_wp2_with fail
  refine (new_any _).mono ?_
  rintro e w1 ⟨X, F1, rfl, k1, g1, f1⟩
  go_wp2_with fail
  refine (new_any _).mono ?_
  rintro e w2 ⟨Y, G1, rfl, k2, g2, f2⟩
  have HT : Hid (Two w w2 X Y F1 G1 [] []) := hid ⟨good_kept g1 k2, g2, ⟨kept_trans k1 k2, f1⟩, ⟨kept_trans k1 k2, fun k hk => Nat.le_trans k1.2 (f2 k hk)⟩, fun k hf hg => by have := good_low g1 k hf; have := f2 k hg; omega⟩
  clear k1 g1 f1 k2 g2 f2
  go_upto_if 19 with fail
  go_cut [2, 3] (fun a b wx => ∃ s t : Int, a = .int .u64 s ∧ b = .int .u64 t ∧ s ≤ t ∧ wx = w2)
  case first =>
    by_cases hst : t0 < s0
    · go_wp2_with fail
      go_meet
      case rel => exact ⟨t0, s0, rfl, rfl, by omega, rfl⟩
    · have hd : decide (t0 < s0) = false := by simpa using hst
      go_wp2_with fail
      go_meet
      case rel => exact ⟨s0, t0, rfl, rfl, by omega, rfl⟩
  case rest =>
    obtain ⟨s, t, rfl, rfl, hst, rfl⟩ := hcut
    have HST := hid hst
    clear hst
    go_upto_block 0 with fail
    go_cut [2, 3] (fun a b wx => a = .int .u64 s ∧ b = .int .u64 t ∧ ∃ (F G : Nat → Prop) (M : List It), M.length ≤ 101 ∧ Hid (Two w wx X Y F G M M))
    case first =>
      go_wp2_with fail
      go_loopw [24] (fun i wr => ∃ (j : Nat) (F G : Nat → Prop) (M : List It), j ≤ len ∧ j ≤ 101 ∧ M.length ≤ j ∧ i = .int .i64 (j : Int) ∧ Hid (Two w wr X Y F G M M)) (fun i _ => len - (intOf i).toNat)
      case atStart => exact ⟨0, F1, G1, [], Nat.zero_le _, by omega, Nat.le_refl _, rfl, HT⟩
      case round =>
        clear HT
        obtain ⟨j, F, G, M, hj, hj2, hM, rfl, HT⟩ := hrel
        by_cases hlt : j < len
        · obtain ⟨x, hx⟩ : ∃ x, xs[j]? = some x := ⟨xs[j]'(by rw [HLx.out]; exact hlt), List.getElem?_eq_getElem _⟩
          obtain ⟨a', c', e0, hc⟩ := HRx.out _ HT.out.mine.1
          injection e0 with e0 e2 e1
          clear e2
          subst e0 e1
          obtain ⟨g1, o1, rfl, hc2⟩ := hc (by rw [HLx.out]; omega)
          have c0 := hc2 j x hx
          have hxw := HWx.out x (List.mem_of_getElem? hx)
          clear hc hc2
          by_cases e0 : 100 < j
          · have e1 : (100 : Int) < (j : Int) := by omega
            clear e0
            go_wp2_with fail
            go_meet
            case rel => exact ⟨rfl, rfl, F, G, M, by omega, HT⟩
          · have e1 : decide ((100 : Int) < (j : Int)) = false := by simp; omega
            by_cases e3 : len1 ≤ j
            · have e4 : decide ((len1 : Int) ≤ (j : Int)) = true := by simp; omega
              clear e0
              go_wp2_with fail
              go_meet
              case rel => exact ⟨rfl, rfl, F, G, M, by omega, HT⟩
            · have e4 : decide ((len1 : Int) ≤ (j : Int)) = false := by simp; omega
              have hj3 : j ≤ 100 := by omega
              have hj4 : j < len1 := by omega
              obtain ⟨y, hy⟩ : ∃ y, ys[j]? = some y := ⟨ys[j]'(by rw [HLy.out]; exact hj4), List.getElem?_eq_getElem _⟩
              have hyw := HWy.out y (List.mem_of_getElem? hy)
              have HY : Hid (∀ u, Kept w u → ∃ g o, oa1 = some ⟨g, o, none⟩ ∧ u.cell? ⟨g, o + j, none⟩ = some (.int .u64 y)) := hid (fun u hu => by
                obtain ⟨a', c', e0, hc⟩ := HRy.out _ hu
                injection e0 with e0 e2 e1
                obtain ⟨g, o, e3, hc2⟩ := hc (by rw [HLy.out]; omega)
                exact ⟨g, o, e0.trans e3, hc2 j y hy⟩)
              obtain ⟨g2, o2, rfl, c2⟩ := HY.out _ HT.out.mine.1
              have hadd := add_any x y hxw hyw (by omega) wr HT.out.good
              clear e0 e3 hx hy
              go_wp2_with fail
              refine hadd.mono ?_
              rintro e w3 ⟨rfl, F3, s3, g3⟩
              have HT3 := hid (two_swap (two_stp HT.out s3 g3))
              obtain ⟨g4, o4, e5, c4⟩ := HY.out _ HT3.out.mine.1
              injection e5 with e5
              injection e5 with e5 e6
              subst e5 e6
              have hadd2 := add_any x y hxw hyw (by omega) w3 HT3.out.good
              clear hadd s3 g3 c0 c2 HT
              go_wp2_with fail
              refine hadd2.mono ?_
              rintro e w4 ⟨rfl, F4, s4, g4⟩
              have HT4 := hid (two_swap (two_stp HT3.out s4 g4))
              have hML := add_len2 (x := (y, x)) (k := x) hM
              clear hadd2 s4 g4 c4 HT3
              go_wp2_with fail
              go_roundw
              case rel => exact ⟨j + 1, F3, F4, _, by omega, by omega, hML, by go_num, HT4⟩
              case measure => simp [intOf]; omega
        · go_wp2_with fail
          go_meet
          case rel => exact ⟨rfl, rfl, F, G, M, by omega, HT⟩
    case rest =>
      clear HT
      obtain ⟨rfl, rfl, F, G, M, hM, HT⟩ := hcut
      have HSr := hid (good_srt HT.out.good)
      have hdue := due_any t (by omega) wc HT.out.good
      clear HRx HRy HWx HWy HLx HLy h2 h3
      go_wp2_with fail
      refine hdue.mono ?_
      rintro e w3 ⟨v3, rfl, o3, t3, g3⟩
      have HVlt : Hid (∀ k, v3.ownBlock = some k → k < w3.heap.size) := hid (fun k hk => (World.ownsRow.lt o3 k hk).2)
      have HT3 := hid (two_swap (two_kept (two_tn HT.out t3 g3) (kept_alloc (kept_refl w3) (.cells #[] 3))))
      have HA3 := hid (own_stays o3 (kept_alloc (kept_refl w3) (.cells #[] 3)))
      have HE3 := hid (own_empty w3)
      have HLo : Hid (∀ k, G k → k < wc.heap.size) := hid (good_low HT.out.also)
      have HSz : Hid (wc.heap.size ≤ w3.heap.size) := hid t3.2.2.1
      obtain ⟨w4, hw4⟩ : ∃ w4, w3.alloc (.cells #[] 3) = w4 := ⟨_, rfl⟩
      obtain ⟨E, hE⟩ : ∃ E, w3.heap.size = E := ⟨_, rfl⟩
      rw [hw4] at HT3 HA3 HE3
      rw [hE] at HE3 HSz HVlt
      have hdue2 := due_all s (by omega) w4 HT3.out.good
      clear hdue o3 t3 g3
      go_wp2_with fail
      refine hdue2.mono ?_
      rintro e w5 ⟨v5, rfl, o5, t5, g5, n5⟩
      have HE0 : Hid (∀ k, G k → k < E) := hid (fun k hk => Nat.lt_of_lt_of_le (HLo.out k hk) HSz.out)
      have HF0 : Hid (∀ k, F k → k < E) := hid (fun k hk => Nat.lt_of_lt_of_le (good_low HT.out.good k hk) HSz.out)
      have HW0 : Hid (w.heap.size ≤ E) := hid (Nat.le_trans HT.out.mine.1.2 HSz.out)
      have HA5 := hid (own_tn HA3.out t5 HLo.out)
      have HO5 := hid (own_tn HE3.out t5 HE0.out)
      have HT5 := hid (two_tn HT3.out t5 g5)
      obtain ⟨q5, c5, rfl, hc5⟩ := own_some o5 n5
      have HC5 := hid hc5
      have HSE : Hid (E ≤ w5.heap.size) := hid (Nat.le_trans (by rw [← hw4, ← hE]; simp) t5.2.2.1)
      have hn5 : (ids (due M s)).length ≤ 101 := by rw [ids_len]; have := due_len M s; omega
      have HVl : Hid (∀ k, v3.ownBlock = some k → k < E) := hid (fun k hk => HVlt.out k hk)
      clear hdue2 o5 t5 g5 n5 hc5 HT3 HA3 HE3 HT
      have HO5' : Hid (w5.ownsRow E 3 1 (.slice (some ⟨E, 0, none⟩) 0 0) 0 []) := HO5
      generalize hq5 : (ids (due M s)).length = n5 at *
      have HN5 := hid hq5
      clear hq5 HO5
      have HNx : Hid (∀ v6 w6, w6.ownsRow E 3 1 v6 (0 + n5) ([] ++ iv (ids (due M s))) → w5.grownBy w6 (some E) → Calls Try.prog 14 #[.pointer (some ⟨Y, 0, none⟩), .int .u64 t] w6 (DueC2 G Y (aft M s) t w6) ∧ Hid (OwnI w6 E v6 (ids (due M s)) ∧ OwnI w6 wc.heap.size v3 (ids (due M t)) ∧ Two w w6 Y X G F (aft M s) (aft M t) ∧ E ≤ w6.heap.size)) := hid (fun v6 w6 ho hg => by
        have h1 : OwnI w6 E v6 (ids (due M s)) := by
          rw [Nat.zero_add] at ho
          exact own_len ho HN5.out
        have h2 : OwnI w6 wc.heap.size v3 (ids (due M t)) := own_kept HA5.out (fun i cur hi ha => hg.block i (at_lt ha) (fun e => by
          injection e with e
          have := HVl.out i hi
          omega))
        have h3 : Two w w6 Y X G F (aft M s) (aft M t) := two_grown HT5.out hg (fun k hk => by
          injection hk with hk
          subst hk
          exact ⟨HW0.out, fun hf => by have := HE0.out _ hf; omega, fun hf => by have := HF0.out _ hf; omega⟩)
        exact ⟨due_all t (by have := aft_len M s; omega) w6 h3.good, hid ⟨h1, h2, h3, Nat.le_trans HSE.out hg.size⟩⟩)
      go_wp2_with (at_builtin; go_must (refine wpList_append_own _ rfl (.tmp 55) (.tmp 58) 34 rfl E 3 i0 (.int .i64 0) 1 8 Try.underlying34 HI.out.1 HI.out.2.1 HI.out.2.2.1 HI.out.2.2.2 rfl (by decide) _ _ _ rfl HO5'.out ⟨q5, 0, none⟩ n5 c5 (iv (ids (due M s))) rfl (by rw [iv_len, HN5.out, Nat.mul_one]) HC5.out (iv_one _) (by unfold maxLen; omega) (by omega) HSE.out ?_; intro v6 w6 hown6 hgrow6 hnil6; obtain ⟨hd6, HZ6⟩ := HNx.out v6 w6 hown6 hgrow6; clear hown6 hgrow6 hnil6))
      refine hd6.mono ?_
      rintro e w7 ⟨v7, rfl, o7, t7, g7, n7⟩
      have HA7 := hid (own_tn HZ6.out.2.1 t7 HLo.out)
      have HO7 := hid (own_tn HZ6.out.1 t7 HE0.out)
      have HT7 := hid (two_tn HZ6.out.2.2.1 t7 g7)
      have HSE7 : Hid (E ≤ w7.heap.size) := hid (Nat.le_trans HZ6.out.2.2.2 t7.2.2.1)
      obtain ⟨q7, c7, rfl, hc7⟩ := own_some o7 n7
      have HC7 := hid hc7
      have hn7 : (ids (due (aft M s) t)).length ≤ 101 := by rw [ids_len]; have := due_len (aft M s) t; have := aft_len M s; omega
      clear hd6 HZ6 HNx HO5' HC5 HA5 HT5 o7 t7 g7 n7 hc7
      have HO7' : Hid (w7.ownsRow E 3 1 v6 n5 (iv (ids (due M s)))) := hid (by have h := HO7.out; unfold OwnI at h; rw [HN5.out] at h; exact h)
      generalize hq7 : (ids (due (aft M s) t)).length = n7 at *
      have HN7 := hid hq7
      clear hq7 HO7
      have HNy : Hid (∀ v8 w8, w8.ownsRow E 3 1 v8 (n5 + n7) (iv (ids (due M s)) ++ iv (ids (due (aft M s) t))) → w7.grownBy w8 v6.ownBlock → Hid (OwnI w8 E v8 (ids (due M t)) ∧ OwnI w8 wc.heap.size v3 (ids (due M t)) ∧ Two w w8 Y X G F (aft M t) (aft M t))) := hid (fun v8 w8 ho hg => by
        have hlo := World.ownsRow.lt HO7'.out
        have e8 : ids (due M t) = ids (due M s) ++ ids (due (aft M s) t) := by rw [parts_due HST.out HSr.out.srt, ids_apps]
        have h1 : OwnI w8 E v8 (ids (due M t)) := by
          refine own_len (m := n5 + n7) ?_ (by rw [e8]; simp [HN5.out, HN7.out])
          rw [e8, iv_app]
          exact ho
        have h2 : OwnI w8 wc.heap.size v3 (ids (due M t)) := own_kept HA7.out (fun i cur hi ha => hg.block i (at_lt ha) (fun e => by
          have := HVl.out i hi
          have := (hlo i e.symm).1
          omega))
        have h3 : Two w w8 Y X G F (aft (aft M s) t) (aft M t) := two_grown HT7.out hg (fun k hk => by
          have := (hlo k hk).1
          exact ⟨Nat.le_trans HW0.out this, fun hf => by have := HE0.out _ hf; omega, fun hf => by have := HF0.out _ hf; omega⟩)
        rw [parts_aft HST.out] at h3
        exact hid ⟨h1, h2, h3⟩)
      go_wp2_with (at_builtin; go_must (refine wpList_append_own _ rfl (.tmp 59) (.tmp 62) 34 rfl E 3 i0 (.int .i64 0) 1 8 Try.underlying34 HI.out.1 HI.out.2.1 HI.out.2.2.1 HI.out.2.2.2 rfl (by decide) _ _ _ rfl HO7'.out ⟨q7, 0, none⟩ n7 c7 (iv (ids (due (aft M s) t))) rfl (by rw [iv_len, HN7.out, Nat.mul_one]) HC7.out (iv_one _) (by unfold maxLen; omega) (by omega) HSE7.out ?_; intro v8 w8 hown8 hgrow8 hnil8; have HZ8 := HNy.out v8 w8 hown8 hgrow8; clear hown8 hgrow8 hnil8))
      refine (fixed_any _).mono ?_
      rintro e w9 ⟨rfl, k9⟩
      have HT9 := hid (two_kept HZ8.out.2.2 k9)
      have hsame := same_any (ids (due M t)) (by rw [ids_len]; have := due_len M t; omega) v3 v8 w9 (rw_kept (rw_own HZ8.out.2.1) k9) (rw_kept (rw_own HZ8.out.1) k9)
      clear HNy HZ8 k9 HO7' HC7 HA7 HT7
      go_wp2_with fail
      refine hsame.mono ?_
      rintro e w10 ⟨rfl, k10⟩
      have HT10 := hid (two_kept HT9.out k10)
      have hlen1 := len_any w10 HT10.out.also
      have hlen2 := len_any w10 HT10.out.good
      clear hsame k10 HT9
      go_wp2_with fail
      refine hlen1.mono ?_
      rintro e w11 ⟨rfl, rfl⟩
      clear hlen1
      go_wp2_with fail
      refine hlen2.mono ?_
      rintro e w12 ⟨rfl, rfl⟩
      clear hlen2
      have heq : ((((aft M t).length : Nat) : Int) == (((aft M t).length : Nat) : Int)) = true := by simp
      go_wp2_with fail
      go_ret
      exact ⟨by first | rfl | simp, HT10.out.mine.1⟩
end Go.Proofs.Ytdmgdmhggmehgaa
