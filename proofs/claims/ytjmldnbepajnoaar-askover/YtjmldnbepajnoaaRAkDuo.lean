/- Two requests side by side, two maps of nodes and a row of answers; who has answered first. -/
import Derived.Test.YtjmldnbepajnoaaRAkCut
import Derived.Test.YtjmldnbepajnoaaROverMath
import Derived.BigQuiet
namespace Go.Proofs.YtjmldnbepajnoaaR
open Go.ChangeShapes Go.WideShapes Go.ChangeAt Go.RowKit
set_option linter.unusedVariables false
set_option linter.unusedSimpArgs false
set_option maxRecDepth 100000

theorem eq_self (a : R) (w : World) : (Op.equalIn 10000 32 (.agg #[.string a.key, .int .u64 a.s.p, .int .u32 a.s.l, .int .u8 a.s.n, .int .u8 a.kind, .int .u32 a.flags, .int .u64 a.exp, .string a.body]) (.agg #[.string a.key, .int .u64 a.s.p, .int .u32 a.s.l, .int .u8 a.s.n, .int .u8 a.kind, .int .u32 a.flags, .int .u64 a.exp, .string a.body])).run Try.prog w = .ok true w := by
  go_simp
theorem off_other {w w' : World} {F G G' : Nat → Prop} {b : Nat} (h : Off w F b) (d : Sd G w G' w') : Off w' F b := ⟨Nat.lt_of_lt_of_le h.1 d.1.2.2.1, h.2⟩
structure D2 (T : Shape Aq) (W : World) (X Y S1 S2 : Nat) (q p : Aq) (F G : Nat → Prop) (g1 g2 : Int → Option Bool) (wx : World) : Prop where
  x : TT T W X q F wx
  y : TT T W Y p G wx
  d : ∀ b, F b → ¬ G b
  m1 : Gd' mapB wx S1 g1
  m2 : Gd' mapB wx S2 g2
  o1 : Off wx F S1
  o2 : Off wx F S2
  o3 : Off wx G S1
  o4 : Off wx G S2
  n : S1 ≠ S2
  b1 : W.heap.size ≤ S1
  b2 : W.heap.size ≤ S2
/- A row, a block, apart from both. -/
def Ap2 (wx : World) (F G : Nat → Prop) (v : Value) (L : List Opn) : Prop := 0 < L.length → ∀ g, v.ownBlock = some g → Off wx F g ∧ Off wx G g
section
variable {T : Shape Aq} {W w w' : World} {X Y S1 S2 : Nat} {q p q' : Aq} {F G F' : Nat → Prop} {g1 g2 : Int → Option Bool} {v : Value} {L : List Opn}
theorem d2_kept (hT : AskIs T) (h : D2 T W X Y S1 S2 q p F G g1 g2 w) (k : Kept w w') : D2 T W X Y S1 S2 q p F G g1 g2 w' :=
  ⟨tt_kept hT.obj h.x k, tt_kept hT.obj h.y k, h.d, gd_kept h.m1 k, gd_kept h.m2 k, off_kept h.o1 k, off_kept h.o2 k, off_kept h.o3 k, off_kept h.o4 k, h.n, h.b1, h.b2⟩
theorem beside (hT : AskIs T) (h : TT T W Y p G w) (hd : ∀ b, F b → ¬ G b) (x : TT T W X q F w) (x' : TT T W X q' F' w') (d : Sd F w F' w') : TT T W Y p G w' ∧ ∀ b, F' b → ¬ G b := by
  have hs : ∀ b, G b → w'.heap[b]? = w.heap[b]? := fun b hb => d.1.2.2.2 b (hT.obj.lt h.t hb) (fun hf => hd b hf hb)
  refine ⟨⟨hT.obj.stay h.t hs, x'.k, h.f⟩, fun b hb hg => ?_⟩
  rcases d.2 b hb with e | e
  · exact hd b e hg
  · have := hT.obj.lt h.t hg; omega
theorem d2_x (hT : AskIs T) (h : D2 T W X Y S1 S2 q p F G g1 g2 w) (x' : TT T W X q' F' w') (d : Sd F w F' w') : D2 T W X Y S1 S2 q' p F' G g1 g2 w' := by
  obtain ⟨y', d'⟩ := beside hT h.y h.d h.x x' d
  exact ⟨x', y', d', gd_sd h.m1 h.o1 d, gd_sd h.m2 h.o2 d, off_sd h.o1 d, off_sd h.o2 d, off_other h.o3 d, off_other h.o4 d, h.n, h.b1, h.b2⟩
theorem d2_y (hT : AskIs T) (h : D2 T W X Y S1 S2 q p F G g1 g2 w) (y' : TT T W Y q' F' w') (d : Sd G w F' w') : D2 T W X Y S1 S2 q q' F F' g1 g2 w' := by
  obtain ⟨x', d'⟩ := beside hT h.x (fun b hb hf => h.d b hf hb) h.y y' d
  exact ⟨x', y', fun b hb hg => d' b hg hb, gd_sd h.m1 h.o3 d, gd_sd h.m2 h.o4 d, off_other h.o1 d, off_other h.o2 d, off_sd h.o3 d, off_sd h.o4 d, h.n, h.b1, h.b2⟩
theorem d2_put1 (hT : AskIs T) (h : D2 T W X Y S1 S2 q p F G g1 g2 w) {g : Int → Option Bool} (hg : Gd' mapB w' S1 g) (t : w.mapTurned w' S1) : D2 T W X Y S1 S2 q p F G g g2 w' :=
  ⟨tt_turned hT.obj h.x h.o1 h.b1 t, tt_turned hT.obj h.y h.o3 h.b1 t, h.d, hg, gd_turned h.m2 t (Ne.symm h.n), off_turned h.o1 t, off_turned h.o2 t, off_turned h.o3 t, off_turned h.o4 t, h.n, h.b1, h.b2⟩
theorem d2_put2 (hT : AskIs T) (h : D2 T W X Y S1 S2 q p F G g1 g2 w) {g : Int → Option Bool} (hg : Gd' mapB w' S2 g) (t : w.mapTurned w' S2) : D2 T W X Y S1 S2 q p F G g1 g w' :=
  ⟨tt_turned hT.obj h.x h.o2 h.b2 t, tt_turned hT.obj h.y h.o4 h.b2 t, h.d, gd_turned h.m1 t h.n, hg, off_turned h.o1 t, off_turned h.o2 t, off_turned h.o3 t, off_turned h.o4 t, h.n, h.b1, h.b2⟩
theorem ap2_kept (h : Rg encO 11 w v L ∧ Ap2 w F G v L) (k : Kept w w') : Rg encO 11 w' v L ∧ Ap2 w' F G v L := ⟨rg_kept encO_ok h.1 k, fun hp g hg => ⟨off_kept (h.2 hp g hg).1 k, off_kept (h.2 hp g hg).2 k⟩⟩
theorem rg_sd2 {F F' : Nat → Prop} (h : Rg encO 11 w v L) (hF : 0 < L.length → ∀ g, v.ownBlock = some g → Off w F g) (d : Sd F w F' w') : Rg encO 11 w' v L := by
  obtain ⟨a, cap, rfl, h1, h2, h3, h4⟩ := h
  refine ⟨a, cap, rfl, h1, h2, h3, fun hp => ?_⟩
  obtain ⟨g, o, rfl, hc⟩ := h4 hp
  refine ⟨g, o, rfl, fun i x j u hx hu => ?_⟩
  exact (World.cell?_of_block (w := w) (off_same (hF hp g rfl) d)).trans (hc i x j u hx hu)
theorem ap2_x (h : Rg encO 11 w v L ∧ Ap2 w F G v L) (d : Sd F w F' w') : Rg encO 11 w' v L ∧ Ap2 w' F' G v L := ⟨rg_sd2 h.1 (fun hp g hg => (h.2 hp g hg).1) d, fun hp g hg => ⟨off_sd (h.2 hp g hg).1 d, off_other (h.2 hp g hg).2 d⟩⟩
theorem ap2_y (h : Rg encO 11 w v L ∧ Ap2 w F G v L) (d : Sd G w F' w') : Rg encO 11 w' v L ∧ Ap2 w' F F' v L := ⟨rg_sd2 h.1 (fun hp g hg => (h.2 hp g hg).2) d, fun hp g hg => ⟨off_other (h.2 hp g hg).1 d, off_sd (h.2 hp g hg).2 d⟩⟩
theorem ap2_turned {m : Nat} (h : Rg encO 11 w v L ∧ Ap2 w F G v L) (t : w.mapTurned w' m) : Rg encO 11 w' v L ∧ Ap2 w' F G v L := ⟨rg_turned h.1 t, fun hp g hg => ⟨off_turned (h.2 hp g hg).1 t, off_turned (h.2 hp g hg).2 t⟩⟩
theorem ap2_new (hT : AskIs T) (x : TT T W X q F w) (y : TT T W Y p G w) (o : Og encO 11 36 w' w.heap.size v L) : Rg encO 11 w' v L ∧ Ap2 w' F G v L :=
  ⟨rg_own encO_ok o, fun _ g hg => ⟨⟨(World.ownsRow.lt o g hg).2, fun hf => by have := hT.obj.lt x.t hf; have := og_lt o hg; omega⟩, ⟨(World.ownsRow.lt o g hg).2, fun hf => by have := hT.obj.lt y.t hf; have := og_lt o hg; omega⟩⟩⟩
end
/- Who has answered. -/
def nodesL (L : List Opn) : List Int := L.map Opn.node
structure Fi (key : ByteArray) (l : List Int) (L : List Opn) (q : Aq) : Prop where
  nl : q.l = onceL l
  come : ∀ n, okU n → q.come n.toNat = (inL l n && inL (nodesL L) n)
  ga : Ga key q
theorem fi_new {key : ByteArray} {l : List Int} {u : Int} (h1 : l.length ≤ 100) (h2 : U8 l) (hu : inU64 u) : Fi key l [] (newQ l u) := ⟨rfl, fun n _ => by show false = _; simp [nodesL, inL], ga_new h1 h2 hu⟩
theorem once_inL (l : List Int) (n : Int) : inL (onceL l) n = inL l n := by
  rw [Bool.eq_iff_iff, inL_iff, inL_iff]
  exact once_mem
theorem fi_may {key : ByteArray} {l : List Int} {L : List Opn} {q : Aq} (f : Fi key l L q) {n : Int} (hn : okU n) : mayT q n = (inL l n && !inL (nodesL L) n) := by
  unfold mayT
  rw [f.nl, once_inL, f.come n hn]
  cases inL l n <;> cases inL (nodesL L) n <;> rfl
theorem nodes_next (L : List Opn) (o : Opn) : nodesL (L ++ [o]) = nodesL L ++ [o.node] := by unfold nodesL; simp
theorem fi_take {key : ByteArray} {l : List Int} {L : List Opn} {q : Aq} (f : Fi key l L q) {o : Opn} (hn : okU o.node) (hx : RpOk o.x) (hk : o.x.r.key = key) : Fi key l (L ++ [o]) (takeQ q o.node o.x) := by
  have h1 := fi_may f hn
  refine ⟨(take_l q _ _).1.trans f.nl, fun n hk => ?_, ga_take f.ga hx (fun _ => hk)⟩
  rw [nodes_next, inL_app, beq_flip]
  cases h : mayT q o.node with
  | true =>
    rw [take_yes h]
    show upN q.come o.node.toNat true n.toNat = _
    unfold upN
    by_cases e : n = o.node
    · subst e
      rw [h] at h1
      cases e2 : inL l o.node with
      | true => simp
      | false => rw [e2] at h1; cases h1
    · have e2 : ¬ n.toNat = o.node.toNat := by have := hn.1; have := hk.1; omega
      rw [if_neg e2, f.come n hk]
      simp [e]
  | false =>
    rw [take_no h, f.come n hk]
    rw [h] at h1
    by_cases e : n = o.node
    · subst e
      cases e2 : inL l o.node with
      | true =>
        rw [e2] at h1
        cases e3 : inL (nodesL L) o.node with
        | true => simp
        | false => rw [e3] at h1; cases h1
      | false => simp
    · simp [e]
theorem one_of {key : ByteArray} {l : List Int} {L : List Opn} {q : Aq} (f : Fi key l L q) : OneK q := ⟨_, f.ga⟩
/- A map that has just these nodes. -/
def setG (l : List Int) : Int → Option Bool := left l []
theorem setG_get (l : List Int) (n : Int) : (setG l n).getD false = inL l n := by
  unfold setG left
  cases inL l n <;> simp [inL]
theorem setG_put (l : List Int) (y : Int) : upd (setG l) y true = setG (l ++ [y]) := left_put l y
theorem setG_nil : setG [] = fun _ => none := left_none []
end Go.Proofs.YtjmldnbepajnoaaR
