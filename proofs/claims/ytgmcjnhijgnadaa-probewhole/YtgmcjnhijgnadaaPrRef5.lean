/- What stands while the reference ticks: its boxes and its rows. -/
import Derived.Test.YtgmcjnhijgnadaaPrRef4
namespace Go.Proofs.Ytgmcjnhijgnadaa
open Go.ChangeShapes Go.WideShapes Go.ChangeAt Go.RowKit
set_option linter.unusedVariables false
set_option linter.unusedSimpArgs false
set_option maxRecDepth 100000

theorem at_beside {α : Type} {enc : α → List Value} {c : Nat} {T U : TypeId} {w w' : World} {B X : Nat} {v : Value} {xs : List α} {cs : Array Value} (h : At w X cs T) (k : Og enc c U w B v xs) (hTU : T ≠ U) (g : w.grownBy w' v.ownBlock) : At w' X cs T :=
  (g.block X (at_lt h) (fun e => by
    rcases k.2 with ⟨rfl, _⟩ | ⟨g', cap, cur', rfl, _, hg, _⟩
    · cases e
    · injection e with e
      subst e
      exact at_ne h hg hTU rfl)).trans h
structure RK (w : World) (Z Q R1 R2 B : Nat) (zc : Array Value) (pv lv av fv : Value) (left : List Wt) (asks : List Ask) (fail : List Int) (u : World) : Prop where
  z : At u Z zc 30
  q : At u Q #[pv, av, fv] 39
  r1 : At u R1 #[.slice none 0 0, .slice none 0 0, .slice none 0 0] 39
  r2 : At u R2 #[.int .u8 0, .int .i64 0, .slice none 0 0, .int .i64 0, .slice none 0 0, .int .i64 0] 30
  l : Og encW 2 82 u B lv left
  a : Og encA 2 80 u B av asks
  f : Og encU 1 5 u B fv fail
  k : Kept w u
  b : B ≤ u.heap.size
section
variable {w u u' : World} {Z Q R1 R2 B : Nat} {zc : Array Value} {pv lv av fv : Value} {left : List Wt} {asks : List Ask} {fail : List Int}
theorem rk_kept (h : RK w Z Q R1 R2 B zc pv lv av fv left asks fail u) (k : Kept u u') : RK w Z Q R1 R2 B zc pv lv av fv left asks fail u' :=
  ⟨at_kept h.z k, at_kept h.q k, at_kept h.r1 k, at_kept h.r2 k, og_stays h.l k, og_stays h.a k, og_stays h.f k, kept_trans h.k k, Nat.le_trans h.b k.2⟩
/- Where the boxes lie. -/
structure Bx (w : World) (Z Q R1 R2 B : Nat) : Prop where
  o1 : w.heap.size ≤ Z
  o2 : Z < R1
  o3 : R1 < R2
  o4 : R2 < Q
  o5 : Q < B
theorem rk_fail (x : Bx w Z Q R1 R2 B) (h : RK w Z Q R1 R2 B zc pv lv av fv left asks fail u) {fv' : Value} {fail' : List Int} (o : Og encU 1 5 u' B fv' fail') (g : u.grownBy u' fv.ownBlock) : RK w Z Q R1 R2 B zc pv lv av fv' left asks fail' (u'.setCell ⟨Q, 2, none⟩ fv') := by
  obtain ⟨o1, o2, o3, o4, o5⟩ := x
  exact ⟨at_other (at_beside h.z h.f (by decide) g) (by omega) 2 fv', at_set (at_beside h.q h.f (by decide) g) 2 fv', at_other (at_beside h.r1 h.f (by decide) g) (by omega) 2 fv', at_other (at_beside h.r2 h.f (by decide) g) (by omega) 2 fv', og_set (og_beside h.l h.f (by decide) g) o5 2 fv', og_set (og_beside h.a h.f (by decide) g) o5 2 fv', og_set o o5 2 fv', kept_set (kept_gr h.k g (fun j hj => by have := og_lt h.f hj; omega)) (by omega) 2 fv', by rw [World.size_setCell]; exact Nat.le_trans h.b g.size⟩
theorem rk_ask (x : Bx w Z Q R1 R2 B) (h : RK w Z Q R1 R2 B zc pv lv av fv left asks fail u) {av' : Value} {asks' : List Ask} (o : Og encA 2 80 u' B av' asks') (g : u.grownBy u' av.ownBlock) : RK w Z Q R1 R2 B zc pv lv av' fv left asks' fail (u'.setCell ⟨Q, 1, none⟩ av') := by
  obtain ⟨o1, o2, o3, o4, o5⟩ := x
  exact ⟨at_other (at_beside h.z h.a (by decide) g) (by omega) 1 av', at_set (at_beside h.q h.a (by decide) g) 1 av', at_other (at_beside h.r1 h.a (by decide) g) (by omega) 1 av', at_other (at_beside h.r2 h.a (by decide) g) (by omega) 1 av', og_set (og_beside h.l h.a (by decide) g) o5 1 av', og_set o o5 1 av', og_set (og_beside h.f h.a (by decide) g) o5 1 av', kept_set (kept_gr h.k g (fun j hj => by have := og_lt h.a hj; omega)) (by omega) 1 av', by rw [World.size_setCell]; exact Nat.le_trans h.b g.size⟩
theorem rk_left (x : Bx w Z Q R1 R2 B) (h : RK w Z Q R1 R2 B zc pv lv av fv left asks fail u) {lv' : Value} {left' : List Wt} (o : Og encW 2 82 u' B lv' left') (g : u.grownBy u' lv.ownBlock) : RK w Z Q R1 R2 B zc pv lv' av fv left' asks fail u' := by
  obtain ⟨o1, o2, o3, o4, o5⟩ := x
  exact ⟨at_beside h.z h.l (by decide) g, at_beside h.q h.l (by decide) g, at_beside h.r1 h.l (by decide) g, at_beside h.r2 h.l (by decide) g, o, og_beside h.a h.l (by decide) g, og_beside h.f h.l (by decide) g, kept_gr h.k g (fun j hj => by have := og_lt h.l hj; omega), Nat.le_trans h.b g.size⟩
theorem rk_set (x : Bx w Z Q R1 R2 B) (h : RK w Z Q R1 R2 B zc pv lv av fv left asks fail u) (j : Nat) (v : Value) : RK w Z Q R1 R2 B (zc.setIfInBounds j v) pv lv av fv left asks fail (u.setCell ⟨Z, j, none⟩ v) := by
  obtain ⟨o1, o2, o3, o4, o5⟩ := x
  exact ⟨at_set h.z j v, at_other h.q (by omega) j v, at_other h.r1 (by omega) j v, at_other h.r2 (by omega) j v, og_set h.l (by omega) j v, og_set h.a (by omega) j v, og_set h.f (by omega) j v, kept_set h.k (by omega) j v, by rw [World.size_setCell]; exact h.b⟩
end
/- The lists, step by step. -/
theorem fail_next {l : List Wt} {k : Nat} {y : Wt} (h : l[k]? = some y) (t : Nat) : failW t (l.take (k + 1)) = failW t (l.take k) ++ (if late t y then [y.node] else []) := by
  unfold failW
  rw [take_next h, List.filter_append, List.map_append]
  congr 1
  cases e : late t y <;> simp [e]
theorem left_next {l : List Wt} {k : Nat} {y : Wt} (h : l[k]? = some y) (t : Nat) : leftW t (l.take (k + 1)) = leftW t (l.take k) ++ (if late t y then [] else [y]) := by
  unfold leftW
  rw [take_next h, List.filter_append]
  congr 1
  cases e : late t y <;> simp [e]
theorem asks_next {l : List Wt} {k : Nat} {y : Wt} (h : l[k]? = some y) (self : Int) (n : Nat) (x : Int) (hs : List Int) (t : Nat) : asksW self n x hs t (l.take (k + 1)) = asksW self n x hs t (l.take k) ++ (if late t y then [] else asksOf self n x hs y) := by
  unfold asksW
  rw [left_next h, List.flatMap_append]
  congr 1
  cases e : late t y <;> simp [e]
theorem ask_more {self : Int} {n : Nat} {x : Int} {hs : List Int} {y : Wt} {j : Nat} {h : Int} (e : (twoH self n x hs y.node)[j]? = some h) : ((twoH self n x hs y.node).take (j + 1)).map (fun h => (⟨h, y.node⟩ : Ask)) = ((twoH self n x hs y.node).take j).map (fun h => (⟨h, y.node⟩ : Ask)) ++ [⟨h, y.node⟩] := by
  rw [take_next e]
  simp
end Go.Proofs.Ytgmcjnhijgnadaa
