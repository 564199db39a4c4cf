/- Where an append lands: in the row's own block, or in a new one. -/
import Derived.Test.YtjmldnbepajnoaaRGRows
namespace Go.Proofs.YtjmldnbepajnoaaR
open Go.ChangeShapes Go.WideShapes Go.ChangeAt Go.RowKit
set_option linter.unusedVariables false
set_option linter.unusedSimpArgs false

section
variable {P : Program} {α : Type} {enc : α → List Value} {c bytes : Nat} {t e : TypeId} {w : World} {B : Nat} {v : Value} {xs : List α}
theorem gapp_lands (he : Enc enc c) (hT : TyG P t e c bytes) (hby : bytes ≤ 1024) (ho : Og enc c e w B v xs) {ad : Addr} {d : Nat} {ys : List α} (hp : 0 < ys.length) (hx : Rg enc c w (.slice (some ad) ys.length d) ys) (hl : xs.length + ys.length ≤ 4096) (ty : TypeId) {v' : Value} {w' : World}
    (hr : (Builtin.append_ #[t, t] ty #[v, .slice (some ad) ys.length d]).run P w = .ok v' w') : ∀ g, v'.ownBlock = some g → v.ownBlock = some g ∨ g = w.heap.size := by
  obtain ⟨hu, i, z, hi, hz, hs, hb, hc⟩ := hT
  obtain ⟨a, d', e1, hd1, hd2, hd3, hx⟩ := hx
  injection e1 with e1 e2 e3
  subst e1 e3
  obtain ⟨g0, o0, e4, hcell⟩ := hx hp
  injection e4 with e4
  subst e4
  have hnews : ∀ j u, (flatE enc ys)[j]? = some u → w.cell? ((⟨g0, o0, none⟩ : Addr).add j) = some u := fun j u hj => by
    obtain ⟨i', j', x', rfl, hx', hu'⟩ := flatE_inv he hj
    rw [addr_plus, ← Nat.add_assoc]
    exact hcell i' x' j' u hx' hu'
  have hlen : (flatE enc ys).length = ys.length * i.size := by rw [hs]; exact flatE_len he ys
  have hbb : (xs.length + ys.length) * bytes ≤ 4096 * 1024 := Nat.mul_le_mul hl hby
  rcases ho.2 with ⟨rfl, h0⟩ | ⟨g, cap, cur, rfl, hbg, hg, hnc, hcm, hcs, htake⟩
  · have hr2 := run_append_nil (P := P) w t ty e i z hu hi hz ⟨g0, o0, none⟩ ys.length d (flatE enc ys) hlen hnews (by omega) (by omega) (by rw [hb]; rw [h0] at hbb; simp only [Nat.zero_add] at hbb; omega)
    rw [hr2] at hr
    injection hr with h1 h2
    subst h1
    intro g hg
    injection hg with hg
    exact .inr hg.symm
  · by_cases hroom : xs.length + ys.length ≤ cap
    · have hfit : xs.length * i.size + (flatE enc ys).length ≤ cur.size := by rw [hlen, hcs, ← hs, ← Nat.add_mul]; exact Nat.mul_le_mul_right _ hroom
      have hr2 := run_append_room (P := P) w t ty e i hu hi g xs.length cap cur hg ⟨g0, o0, none⟩ ys.length d (flatE enc ys) hlen hnews (flatE_ones he ys) hroom hfit
      rw [hr2] at hr
      injection hr with h1 h2
      subst h1
      intro g' hg'
      injection hg' with hg'
      exact .inl (by subst hg'; rfl)
    · have hxl : (flatE enc xs).length = xs.length * i.size := by rw [hs]; exact flatE_len he xs
      have holds : ∀ j u, (flatE enc xs)[j]? = some u → w.cell? ((⟨g, 0, none⟩ : Addr).add j) = some u := ho.cells (g := g) rfl
      have hr2 := run_append_grow (P := P) w t ty e i z hu hi hz ⟨g, 0, none⟩ xs.length cap (flatE enc xs) hxl holds ⟨g0, o0, none⟩ ys.length d (flatE enc ys) hlen hnews (by omega) (by omega) (growslice_fits (by omega) (by rw [hb]; omega))
      rw [hr2] at hr
      injection hr with h1 h2
      subst h1
      intro g' hg'
      injection hg' with hg'
      exact .inr hg'.symm
theorem wpList_gappL {ops : Array Oper} {rest : List Oper} {o : Oper} {act : Act} {Q : Exit → Act → World → Prop} (hgd : o.guard = none) (s q : Operand)
    (op : o.op = .call { callee := .builtin .append, args := #[s, q], argTypes := #[t, t] }) (he : Enc enc c) (hT : TyG P t e c bytes) (hby : bytes ≤ 1024) (B : Nat) (v : Value) (ad : Addr) (d : Nat) (xs ys : List α) (hs : act.eval s = v) (ho : Og enc c e w B v xs) (hq : act.eval q = .slice (some ad) ys.length d) (hp : 0 < ys.length) (hx : Rg enc c w (.slice (some ad) ys.length d) ys)
    (hl : xs.length + ys.length ≤ 4096) (hB : B ≤ w.heap.size) (h : ∀ v' w', Og enc c e w' B v' (xs ++ ys) → w.grownBy w' v.ownBlock → (∀ g, v'.ownBlock = some g → v.ownBlock = some g ∨ g = w.heap.size) → wpList P ops Q rest (act.put o.dst v') w') : wpList P ops Q (o :: rest) act w :=
  wpList_plain hgd fun _ hK => by
    obtain ⟨v', w', hr, h2, h3, h4⟩ := grun_app he hT hby ho hx hl hB o.type
    have h5 := gapp_lands he hT hby ho hp hx hl o.type hr
    unfold Oper.wp execOp
    simp only [op, resolve, invoke, builtin, Sem.run_bind, Sem.run_pure, Result.andThen_ok, List.map_toArray, List.map_cons, List.map_nil, hs, hq, hr]
    exact hK _ _ (h v' w' h2 h3 h5)
end
end Go.Proofs.YtjmldnbepajnoaaR
