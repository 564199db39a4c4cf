/- The contract of the landed probe's Tick. -/
import Derived.Test.YtgmcjnhijgnadaaPrCode4
import Derived.Test.YtgmcjnhijgnadaaPrCode5
namespace Go.Proofs.Ytgmcjnhijgnadaa
open Go.ChangeShapes Go.WideShapes Go.ChangeAt Go.RowKit
set_option linter.unusedVariables false
set_option linter.unusedSimpArgs false
set_option maxRecDepth 100000

/- What stands while the waits are gone through. -/
structure TK (w : World) (Y6 Y7 B : Nat) (sv av fv : Value) (left : List Wt) (asks : List Ask) (fail : List Int) (u : World) : Prop where
  y6 : At u Y6 #[.slice none 0 0, .slice none 0 0, .slice none 0 0] 39
  y7 : At u Y7 #[.slice none 0 0, av, fv] 39
  l : Og encW 2 86 u B sv left
  a : Og encA 2 80 u B av asks
  f : Og encU 1 5 u B fv fail
  k : Kept w u
  b : B ≤ u.heap.size
structure Ty (w : World) (Y6 Y7 B : Nat) : Prop where
  o1 : w.heap.size ≤ Y6
  o2 : Y6 < Y7
  o3 : Y7 < B
section
variable {w u u' : World} {Y6 Y7 B : Nat} {sv av fv : Value} {left : List Wt} {asks : List Ask} {fail : List Int}
theorem tk_kept (h : TK w Y6 Y7 B sv av fv left asks fail u) (k : Kept u u') : TK w Y6 Y7 B sv av fv left asks fail u' :=
  ⟨at_kept h.y6 k, at_kept h.y7 k, og_stays h.l k, og_stays h.a k, og_stays h.f k, kept_trans h.k k, Nat.le_trans h.b k.2⟩
theorem tk_fail (x : Ty w Y6 Y7 B) (h : TK w Y6 Y7 B sv av fv left asks fail u) {fv' : Value} {fail' : List Int} (o : Og encU 1 5 u' B fv' fail') (g : u.grownBy u' fv.ownBlock) : TK w Y6 Y7 B sv av fv' left asks fail' (u'.setCell ⟨Y7, 2, none⟩ fv') := by
  obtain ⟨o1, o2, o3⟩ := x
  exact ⟨at_other (at_beside h.y6 h.f (by decide) g) (by omega) 2 fv', at_set (at_beside h.y7 h.f (by decide) g) 2 fv', og_set (og_beside h.l h.f (by decide) g) o3 2 fv', og_set (og_beside h.a h.f (by decide) g) o3 2 fv', og_set o o3 2 fv', kept_set (kept_gr h.k g (fun j hj => by have := og_lt h.f hj; omega)) (by omega) 2 fv', by rw [World.size_setCell]; exact Nat.le_trans h.b g.size⟩
theorem tk_ask (x : Ty w Y6 Y7 B) (h : TK w Y6 Y7 B sv av fv left asks fail u) {av' : Value} {asks' : List Ask} (o : Og encA 2 80 u' B av' asks') (g : u.grownBy u' av.ownBlock) : TK w Y6 Y7 B sv av' fv left asks' fail (u'.setCell ⟨Y7, 1, none⟩ av') := by
  obtain ⟨o1, o2, o3⟩ := x
  exact ⟨at_other (at_beside h.y6 h.a (by decide) g) (by omega) 1 av', at_set (at_beside h.y7 h.a (by decide) g) 1 av', og_set (og_beside h.l h.a (by decide) g) o3 1 av', og_set o o3 1 av', og_set (og_beside h.f h.a (by decide) g) o3 1 av', kept_set (kept_gr h.k g (fun j hj => by have := og_lt h.a hj; omega)) (by omega) 1 av', by rw [World.size_setCell]; exact Nat.le_trans h.b g.size⟩
theorem tk_left (x : Ty w Y6 Y7 B) (h : TK w Y6 Y7 B sv av fv left asks fail u) {sv' : Value} {left' : List Wt} (o : Og encW 2 86 u' B sv' left') (g : u.grownBy u' sv.ownBlock) : TK w Y6 Y7 B sv' av fv left' asks fail u' := by
  obtain ⟨o1, o2, o3⟩ := x
  exact ⟨at_beside h.y6 h.l (by decide) g, at_beside h.y7 h.l (by decide) g, o, og_beside h.a h.l (by decide) g, og_beside h.f h.l (by decide) g, kept_gr h.k g (fun j hj => by have := og_lt h.l hj; omega), Nat.le_trans h.b g.size⟩
end
/- The lists, as the landed probe has them. -/
theorem ag_at {t : Nat} {ws : List Wt} {k : Nat} {y : Wt} (h : ws[k]? = some y) : (agW t ws)[k]? = some ⟨y.node, t - y.since⟩ := by unfold agW; rw [List.getElem?_map, h]; rfl
theorem ag_left {l : List Wt} {k t : Nat} {y : Wt} (h : l[k]? = some y) (hs : y.since ≤ t) : agW (t + 1) (leftW (t + 1) (l.take (k + 1))) = agW (t + 1) (leftW (t + 1) (l.take k)) ++ (if late (t + 1) y then [] else [⟨y.node, t - y.since + 1⟩]) := by
  rw [left_next h]
  unfold agW
  rw [List.map_append]
  congr 1
  cases e : late (t + 1) y with
  | true => rfl
  | false =>
    show [(⟨y.node, t + 1 - y.since⟩ : Wt)] = _
    rw [show t + 1 - y.since = t - y.since + 1 by omega]
    rfl
theorem late_is {t : Nat} {y : Wt} (hs : y.since ≤ t) : late (t + 1) y = decide (1 < t - y.since + 1) := by
  unfold late
  by_cases h : y.since + 2 ≤ t + 1
  · rw [decide_eq_true h, decide_eq_true (by omega)]
  · rw [decide_eq_false h, decide_eq_false (by omega)]
theorem mkA_asks (sf : Int) (n : Nat) (x : Int) (hs : List Int) (y : Wt) : mkA y.node (twoH sf n x hs y.node) = asksOf sf n x hs y := rfl
theorem waits_ag {t : Nat} {ws : List Wt} {a : Int} : waitN (agW t ws) a = agW t (waitT ws a t) := by
  unfold waitN waitT
  rw [isW_ag]
  cases isW ws a with
  | true => rfl
  | false =>
    unfold agW
    simp
/- The answer apart from the probe. -/
theorem fp5 {u : World} {X B : Nat} {sf : Int} {rv wv v : Value} {place : Nat} {row xs : List Int} {ws : List Wt} (P : Pm u X sf rv place wv row ws) (hG : ∀ b, rv.ownBlock = some b → b < B) (h : Og encU 1 5 u B v xs) : ∀ g, v.ownBlock = some g → ¬ Fp X rv wv g := fun g hg hF => by
  rcases hF with e | e | e
  · exact own_ne h P.a (by decide) g hg e
  · have := hG g e
    have := og_lt h hg
    omega
  · obtain ⟨cs, hc⟩ := own_at P.w e
    exact own_ne h hc (by decide) g hg rfl
theorem fpA {u : World} {X B : Nat} {sf : Int} {rv wv v : Value} {place : Nat} {row : List Int} {xs : List Ask} {ws : List Wt} (P : Pm u X sf rv place wv row ws) (ha : Og encA 2 80 u B v xs) : ∀ g, v.ownBlock = some g → ¬ Fp X rv wv g := fun g hg hF => by
  rcases hF with e | e | e
  · exact own_ne ha P.a (by decide) g hg e
  · obtain ⟨cs, hc⟩ := own_at P.r e
    exact own_ne ha hc (by decide) g hg rfl
  · obtain ⟨cs, hc⟩ := own_at P.w e
    exact own_ne ha hc (by decide) g hg rfl
theorem fp_ne {u : World} {X Q : Nat} {sf : Int} {rv wv : Value} {place : Nat} {row : List Int} {ws : List Wt} {cs : Array Value} (P : Pm u X sf rv place wv row ws) (h : At u Q cs 39) : ¬ Fp X rv wv Q := fun hF => by
  rcases hF with e | e | e
  · exact at_ne h P.a (by decide) e
  · exact own_ne P.r h (by decide) Q e rfl
  · exact own_ne P.w h (by decide) Q e rfl
theorem ro_of {u : World} {X B : Nat} {sf : Int} {rv wv pv av fv : Value} {place : Nat} {row : List Int} {ws : List Wt} {r : Rd} (P : Pm u X sf rv place wv row ws) (hG : ∀ b, rv.ownBlock = some b → b < B) (hp : Og encU 1 5 u B pv r.pings) (ha : Og encA 2 80 u B av r.asks) (hf : Og encU 1 5 u B fv r.failed) : Ro u (Fp X rv wv) pv av fv r :=
  ⟨og_low hp (Nat.zero_le _), og_low ha (Nat.zero_le _), og_low hf (Nat.zero_le _), fp5 P hG hp, fpA P ha, fp5 P hG hf⟩
theorem pm_other {u : World} {X Q : Nat} {sf : Int} {rv wv : Value} {place : Nat} {row : List Int} {ws : List Wt} {cs : Array Value} (P : Pm u X sf rv place wv row ws) (h : At u Q cs 39) (o : Nat) (v : Value) : Pm (u.setCell ⟨Q, o, none⟩ v) X sf rv place wv row ws :=
  ⟨at_other P.a (at_ne P.a h (by decide)) o v, og_other P.r h (by decide) o v, og_other P.w h (by decide) o v⟩
/- All that the end asks. -/
structure Tend (w : World) (X Y6 Y7 B : Nat) (F : Nat → Prop) (sf : Int) (rv wv pv av fv : Value) (place : Nat) (row : List Int) (ws : List Wt) (r : Rd) (u : World) : Prop where
  m : Pm u X sf rv place wv row ws
  y6 : ∃ cs, At u Y6 cs 39 ∧ cs.size = 3
  p : Og encU 1 5 u B pv r.pings
  a : Og encA 2 80 u B av r.asks
  f : Og encU 1 5 u B fv r.failed
  g : ∀ b, rv.ownBlock = some b → b < B
  t : Tn F w u
  o : ∀ b, Fp X rv wv b → F b ∨ w.heap.size ≤ b
theorem tend_set {w u : World} {X Y6 Y7 B : Nat} {F : Nat → Prop} {sf : Int} {rv wv pv av fv : Value} {place : Nat} {row : List Int} {ws : List Wt} {r : Rd} (h : Tend w X Y6 Y7 B F sf rv wv pv av fv place row ws r u) (x : Ty w Y6 Y7 B) (o : Nat) (v : Value) : Tend w X Y6 Y7 B F sf rv wv pv av fv place row ws r (u.setCell ⟨Y6, o, none⟩ v) := by
  obtain ⟨o1, o2, o3⟩ := x
  obtain ⟨cs, hc, hs⟩ := h.y6
  exact ⟨pm_other h.m hc o v, ⟨_, at_set hc o v, by simp [hs]⟩, og_set h.p (by omega) o v, og_set h.a (by omega) o v, og_set h.f (by omega) o v, h.g, tn_comp h.t (tn_set u Y6 o v) (fun b hb => .inr (by rw [hb]; exact o1)), h.o⟩
theorem tend_done {w u : World} {X Y6 Y7 B : Nat} {F : Nat → Prop} {rv wv pv av fv : Value} {p : Pb} {r : Rd} (h : Tend w X Y6 Y7 B F p.self rv wv pv av fv p.place p.row (agW p.ticks p.waits) r u) : TickC PrT X p r F w (.returned (.agg #[pv, av, fv])) u :=
  ⟨pv, av, fv, Fp X rv wv, rfl, ro_of h.m h.g h.p h.a h.f, ⟨rv, wv, h.m.a, h.m.r, h.m.w, fun b => Iff.rfl⟩, h.t, h.o⟩
end Go.Proofs.Ytgmcjnhijgnadaa
