/- The walk of ProbeWhole, out of what the landed doubts must answer. -/
import Derived.Test.YtgmcjnhijgnadaaPrFixed
import Derived.Test.YtgmcjnhijgnadaaGDom
namespace Go.Proofs.Ytgmcjnhijgnadaa
open Go.ChangeShapes Go.WideShapes Go.ChangeAt Go.RowKit
set_option linter.unusedVariables false
set_option linter.unusedSimpArgs false
set_option maxRecDepth 100000

structure Dt where
  kind : Int
  node : Int
  inc : Int
  t : Int
def encD (d : Dt) : List Value := [.int .i64 d.kind, .int .u8 d.node, .int .u32 d.inc, .int .u64 d.t]
theorem encD_ok : Enc encD 4 := ⟨by decide, fun _ => rfl, fun x v hv => by
  simp only [encD, List.mem_cons, List.not_mem_nil, or_false] at hv
  rcases hv with rfl | rfl | rfl | rfl <;> rfl⟩
theorem rg_D {w : World} {g o n cap : Nat} {xs : List Dt} (h : Rg encD 4 w (.slice (some ⟨g, o, none⟩) n cap) xs) {i : Nat} {x : Dt} (hx : xs[i]? = some x) : w.cell? ⟨g, o + i * 4, none⟩ = some (.int .i64 x.kind) ∧ w.cell? ⟨g, o + i * 4 + 1, none⟩ = some (.int .u8 x.node) ∧ w.cell? ⟨g, o + i * 4 + 2, none⟩ = some (.int .u32 x.inc) ∧ w.cell? ⟨g, o + i * 4 + 3, none⟩ = some (.int .u64 x.t) :=
  ⟨rg_all h hx 0 _ rfl, rg_all h hx 1 _ rfl, rg_all h hx 2 _ rfl, rg_all h hx 3 _ rfl⟩
theorem rg_N {w : World} {g o n cap : Nat} {xs : List Nw} (h : Rg encN 3 w (.slice (some ⟨g, o, none⟩) n cap) xs) {i : Nat} {x : Nw} (hx : xs[i]? = some x) : w.cell? ⟨g, o + i * 3, none⟩ = some (.int .u8 x.node) ∧ w.cell? ⟨g, o + i * 3 + 1, none⟩ = some (.int .u8 x.st) ∧ w.cell? ⟨g, o + i * 3 + 2, none⟩ = some (.int .u32 x.inc) :=
  ⟨rg_all h hx 0 _ rfl, rg_all h hx 1 _ rfl, rg_all h hx 2 _ rfl⟩
theorem zeroD (w : World) : (zeroValue 64).run Try.prog w = .ok (.agg #[.int .i64 0, .int .u8 0, .int .u32 0, .int .u64 0]) w := by kernel_rfl
theorem zeroN (w : World) : (zeroValue 72).run Try.prog w = .ok (.agg #[.int .u8 0, .int .u8 0, .int .u32 0]) w := by kernel_rfl
/- Maps of nodes to such. -/
def edD (d : Dt) : DataW Unit := .agg [.lit (.int .i64 d.kind), .lit (.int .u8 d.node), .lit (.int .u32 d.inc), .lit (.int .u64 d.t)]
def evD (d : Dt) : Value := .agg #[.int .i64 d.kind, .int .u8 d.node, .int .u32 d.inc, .int .u64 d.t]
def rdD (v : Value) : Option (DataW Unit × List MemPlace) :=
  match v with
  | .agg xs => match xs.toList with
    | [.int .i64 a, .int .u8 b, .int .u32 c, .int .u64 d] => some (edD ⟨a, b, c, d⟩, [])
    | _ => none
  | _ => none
theorem rdD_inv {v : Value} {y : DataW Unit × List MemPlace} (h : rdD v = some y) : ∃ c, v = evD c ∧ y = (edD c, []) := by
  unfold rdD at h
  split at h
  · rename_i xs
    split at h
    · rename_i a b c d hx
      injection h with h
      refine ⟨⟨a, b, c, d⟩, ?_, h.symm⟩
      unfold evD
      congr 1
      exact Array.toList_inj.1 hx
    · cases h
  · cases h
theorem edD_inj {a b : Dt} (h : edD a = edD b) : a = b := by
  cases a
  cases b
  unfold edD at h
  injection h with h
  simp only [List.cons.injEq, DataW.lit.injEq, Lit.int.injEq, true_and, and_true] at h
  obtain ⟨rfl, rfl, rfl, rfl⟩ := h
  rfl
def mapDt : MapD Int Dt := { t := 61, k := 5, e := 64, kv := .int .u8, kl := klU, ok := okU, ev := evD, ed := edD, rd := rdD, z := ⟨0, 0, 0, 0⟩ }
theorem mapDt_ok : mapDt.Ok Try.prog := {
  und := Try.underlying61
  keyed := keyed5
  key := key5
  inj := klU_inj
  zero := zeroD
  reads := fun _ => rfl
  inv := fun v y ps h => by
    obtain ⟨c, e1, e2⟩ := rdD_inv h
    injection e2 with e2 _
    rw [e1, edD_inj e2]
    rfl
  invK := fun key l h => klU_inv h
  invV := fun v y h => rdD_inv h }
theorem look2_D {w : World} {S : Nat} {g : Int → Option Dt} (h : Gd' mapDt w S g) {x : Int} (hx : okU x) {d : Dt} (hg : g x = some d) : (Instr.lookup 61 (.map (some S)) (.int .u8 x) true).run Try.prog w = .ok (.tuple #[.agg #[.int .i64 d.kind, .int .u8 d.node, .int .u32 d.inc, .int .u64 d.t], .bool true]) w := by
  have := gm_look mapDt_ok h (x := x) hx
  rw [hg] at this
  exact this
theorem put_D {w : World} {S : Nat} {g : Int → Option Dt} (h : Gd' mapDt w S g) {x : Int} (hx : okU x) (d : Dt) : ∃ w', (Instr.mapUpdate 61 (.map (some S)) (.int .u8 x) (.agg #[.int .i64 d.kind, .int .u8 d.node, .int .u32 d.inc, .int .u64 d.t])).run Try.prog w = .ok () w' ∧ Gd' mapDt w' S (upd g x d) ∧ w.mapTurned w' S := gd_put mapDt_ok rfl h hx d
theorem del_D {w : World} {S : Nat} {g : Int → Option Dt} (h : Gd' mapDt w S g) {x : Int} (hx : okU x) (ty : TypeId) : ∃ w', (Builtin.delete_ #[61, 5] ty #[.map (some S), .int .u8 x]).run Try.prog w = .ok (.tuple #[]) w' ∧ Gd' mapDt w' S (del g x) ∧ w.mapTurned w' S := gd_del mapDt_ok rfl h hx ty
/- What was begun, and the doubts. -/
structure BG (n : Nat) (now : Int) (B : Int → Option Dt) (g : Int → Option Db) : Prop where
  a : ∀ x, g x = (B x).map (fun d => ⟨d.inc, d.t + (n : Int)⟩)
  b : ∀ x d, B x = some d → okU x ∧ (0 ≤ d.t ∧ d.t ≤ now) ∧ (0 ≤ d.inc ∧ d.inc < 4294967296)
theorem bg_start (n : Nat) (now : Int) : BG n now (fun _ => none) (fun _ => none) := ⟨fun x => rfl, fun x d h => by cases h⟩
theorem bg_more {n : Nat} {now now' : Int} {B : Int → Option Dt} {g : Int → Option Db} (h : BG n now B g) (hn : now ≤ now') : BG n now' B g := ⟨h.a, fun x d hd => by
  obtain ⟨h1, h2, h3⟩ := h.b x d hd
  exact ⟨h1, ⟨h2.1, by omega⟩, h3⟩⟩
theorem bg_du {n : Nat} {now : Int} {B : Int → Option Dt} {g : Int → Option Db} (h : BG n now B g) (hn : n ≤ 1000) (hw : now ≤ 900000) : Du g := fun x d hd => by
  rw [h.a x] at hd
  cases e : B x with
  | none => rw [e] at hd; cases hd
  | some b =>
    rw [e] at hd
    injection hd with hd
    subst hd
    obtain ⟨h1, h2, h3⟩ := h.b x b e
    exact ⟨h1, h3, by show 0 ≤ b.t + (n : Int); omega, by show b.t + (n : Int) ≤ 1000000; omega⟩
theorem bg_put {n : Nat} {now : Int} {B : Int → Option Dt} {g : Int → Option Db} (h : BG n now B g) (h0 : 0 ≤ now) {x inc : Int} (hx : okU x) (hi : 0 ≤ inc ∧ inc < 4294967296) : BG n now (upd B x ⟨0, 0, inc, now⟩) (putG g x ⟨inc, now + (n : Int)⟩) := ⟨fun z => by
  unfold upd putG
  by_cases e : z = x
  · simp [e]
  · simp [e, h.a z], fun z d hd => by
  unfold upd at hd
  by_cases e : z = x
  · rw [if_pos e] at hd
    injection hd with hd
    subst hd e
    exact ⟨hx, ⟨h0, Int.le_refl _⟩, hi⟩
  · rw [if_neg e] at hd
    exact h.b z d hd⟩
theorem bg_del {n : Nat} {now : Int} {B : Int → Option Dt} {g : Int → Option Db} (h : BG n now B g) (x : Int) : BG n now (del B x) (delG g x) := ⟨fun z => by
  unfold del delG
  by_cases e : z = x
  · simp [e]
  · simp [e, h.a z], fun z d hd => by
  unfold del at hd
  by_cases e : z = x
  · rw [if_pos e] at hd; cases hd
  · rw [if_neg e] at hd
    exact h.b z d hd⟩
def delL (B : Int → Option Dt) (xs : List Nw) (q : Int) : Option Dt := if q ∈ xs.map Nw.node then none else B q
theorem delL_nil (B : Int → Option Dt) : delL B [] = B := by funext q; simp [delL]
theorem delL_more (B : Int → Option Dt) (xs : List Nw) (x : Nw) : delL B (xs ++ [x]) = del (delL B xs) x.node := by
  funext q
  unfold delL del
  by_cases e : q = x.node
  · simp [e]
  · simp [e]
def ovk (g : Int → Option Db) (now : Int) (k : Nat) : Option Nw := match g (k : Int) with
  | none => none
  | some d => if d.over ≤ now then some ⟨(k : Int), 3, d.inc⟩ else none
theorem overL_is (g : Int → Option Db) (now : Int) : overL g now = (List.range 256).filterMap (ovk g now) := rfl
theorem ovk_some {g : Int → Option Db} {now : Int} {k : Nat} {x : Nw} (h : ovk g now k = some x) : ∃ d, g (k : Int) = some d ∧ d.over ≤ now ∧ x = ⟨(k : Int), 3, d.inc⟩ := by
  unfold ovk at h
  cases e : g (k : Int) with
  | none => rw [e] at h; cases h
  | some d =>
    rw [e] at h
    simp only at h
    by_cases hd : d.over ≤ now
    · rw [if_pos hd] at h
      injection h with h
      exact ⟨d, rfl, hd, h.symm⟩
    · rw [if_neg hd] at h
      cases h
theorem over_mem {g : Int → Option Db} {now : Int} {x : Nw} (h : x ∈ overL g now) : okU x.node ∧ x.st = 3 ∧ ∃ d, g x.node = some d ∧ d.over ≤ now ∧ d.inc = x.inc := by
  rw [overL_is] at h
  obtain ⟨k, hk, e⟩ := List.mem_filterMap.1 h
  obtain ⟨d, h1, h2, rfl⟩ := ovk_some e
  have := List.mem_range.1 hk
  exact ⟨⟨by show 0 ≤ (k : Int); omega, by show (k : Int) < 256; omega⟩, rfl, d, h1, h2, rfl⟩
theorem over_in {g : Int → Option Db} {now : Int} {x : Int} {d : Db} (hx : okU x) (h : g x = some d) (ho : d.over ≤ now) : x ∈ (overL g now).map Nw.node := by
  obtain ⟨k, rfl⟩ := Int.eq_ofNat_of_zero_le hx.1
  refine List.mem_map.2 ⟨⟨(k : Int), 3, d.inc⟩, ?_, rfl⟩
  rw [overL_is]
  refine List.mem_filterMap.2 ⟨k, List.mem_range.2 (by have := hx.2; omega), ?_⟩
  unfold ovk
  rw [h]
  simp [ho]
theorem over_once (g : Int → Option Db) (now : Int) : ((overL g now).map Nw.node).Nodup := by
  have key : ∀ ks : List Nat, ks.Nodup → ((ks.filterMap (ovk g now)).map Nw.node).Nodup ∧ ∀ z ∈ (ks.filterMap (ovk g now)).map Nw.node, ∃ k ∈ ks, z = (k : Int) := fun ks => by
    induction ks with
    | nil => intro _; exact ⟨by simp, fun z hz => by simp at hz⟩
    | cons k ks ih =>
      intro hd
      rw [List.nodup_cons] at hd
      obtain ⟨h1, h2⟩ := ih hd.2
      rw [List.filterMap_cons]
      cases e : ovk g now k with
      | none => exact ⟨h1, fun z hz => by obtain ⟨q, hq, e⟩ := h2 z hz; exact ⟨q, List.mem_cons_of_mem _ hq, e⟩⟩
      | some x =>
        obtain ⟨d, _, _, rfl⟩ := ovk_some e
        refine ⟨?_, fun z hz => ?_⟩
        · rw [List.map_cons, List.nodup_cons]
          refine ⟨fun hm => ?_, h1⟩
          obtain ⟨q, hq, e2⟩ := h2 _ hm
          have : k = q := by simp only at e2; omega
          rw [this] at hd
          exact hd.1 hq
        · rw [List.map_cons, List.mem_cons] at hz
          rcases hz with rfl | hz
          · exact ⟨k, by simp, rfl⟩
          · obtain ⟨q, hq, e⟩ := h2 z hz
            exact ⟨q, List.mem_cons_of_mem _ hq, e⟩
  rw [overL_is]
  exact (key _ List.nodup_range).1
theorem bg_over {n : Nat} {now : Int} {B : Int → Option Dt} {g : Int → Option Db} (h : BG n now B g) : BG n now (delL B (overL g now)) (leftG g now) := ⟨fun x => by
  unfold leftG delL
  cases e : B x with
  | none =>
    have hg : g x = none := by rw [h.a x, e]; rfl
    rw [hg]
    simp
  | some d =>
    have hg : g x = some ⟨d.inc, d.t + (n : Int)⟩ := by rw [h.a x, e]; rfl
    rw [hg]
    by_cases ho : d.t + (n : Int) ≤ now
    · rw [if_pos (over_in (h.b x d e).1 hg ho)]
      simp [ho]
    · rw [if_neg]
      · simp [ho]
      · intro hm
        obtain ⟨y, hy, rfl⟩ := List.mem_map.1 hm
        obtain ⟨_, _, d', hd', ho', _⟩ := over_mem hy
        rw [hg] at hd'
        injection hd' with hd'
        subst hd'
        exact ho ho', fun x d hd => by
  unfold delL at hd
  by_cases hm : x ∈ (overL g now).map Nw.node
  · rw [if_pos hm] at hd; cases hd
  · rw [if_neg hm] at hd
    exact h.b x d hd⟩
theorem over_begun {n : Nat} {now : Int} {B : Int → Option Dt} {g : Int → Option Db} (h : BG n now B g) {x : Nw} (hx : x ∈ overL g now) : okU x.node ∧ x.st = 3 ∧ ∃ d, B x.node = some d ∧ d.inc = x.inc ∧ d.t + (n : Int) ≤ now ∧ 0 ≤ d.t := by
  obtain ⟨h1, h2, d, h3, h4, h5⟩ := over_mem hx
  rw [h.a x.node] at h3
  cases e : B x.node with
  | none => rw [e] at h3; cases h3
  | some b =>
    rw [e] at h3
    injection h3 with h3
    subst h3
    exact ⟨h1, h2, b, rfl, h5, h4, (h.b _ _ e).2.1.1⟩
theorem once_next {xs : List Nw} (h : (xs.map Nw.node).Nodup) {j : Nat} {x : Nw} (hx : xs[j]? = some x) : x.node ∉ (xs.take j).map Nw.node := by
  have hj := (List.getElem?_eq_some_iff.1 hx).1
  intro hm
  obtain ⟨y, hy, e⟩ := List.mem_map.1 hm
  obtain ⟨i, hi⟩ := List.mem_iff_getElem?.1 hy
  have hij : i < j := by
    have := (List.getElem?_eq_some_iff.1 hi).1
    rw [List.length_take] at this
    omega
  rw [List.getElem?_take, if_pos hij] at hi
  have h1 : (xs.map Nw.node)[i]? = some y.node := by rw [List.getElem?_map, hi]; rfl
  have h2 : (xs.map Nw.node)[j]? = some x.node := by rw [List.getElem?_map, hx]; rfl
  have := (List.getElem?_inj (by simp; omega) h).1 (h1.trans (by rw [h2, e]))
  omega
theorem over_len (g : Int → Option Db) (now : Int) : (overL g now).length ≤ 256 := by
  rw [overL_is]
  have := List.length_filterMap_le (ovk g now) (List.range 256)
  rwa [List.length_range] at this
end Go.Proofs.Ytgmcjnhijgnadaa
