/- The law that any bytes are read as the document says, or refused with its error, walked: it answers true and turns nothing that was there. The text has at most as many bytes as a text may have. What lies in memory while the reference reads a message: its reader, the message so far, the rows so far. No condition. -/
import Derived.Test.YtioeidhblbfgmaaGreatY35
import Derived.Test.YtioeidhblbfgmaaGreatY14
import Derived.Test.YtioeidhblbfgmaaGreatY32

namespace Go.Proofs.YtioeidhblbfgmaaGreat.Frm
open Go.ChangeShapes Go.WideShapes Go.ChangeAt Go.RowKit
set_option linter.unusedVariables false
set_option maxRecDepth 100000
set_option linter.unusedSimpArgs false

theorem err_of {s : ByteArray} {r : Nat} (h : why s.data.toList = r) (h0 : r ≠ 0) : ansV (dec s) (why s.data.toList) = errV (r : Int) := by
  have e : dec s = (0, 0, 0, ⟨#[]⟩) := by unfold dec; rw [if_neg (by omega)]
  rw [e, h]; rfl
theorem refDecode_any (s : ByteArray) (hs : s.size ≤ 140737488355328) (w : World) :
    Calls Tryz.prog 26 #[.string s] w fun e w' => e = .returned (ansV (dec s) (why s.data.toList)) ∧ Kept w w' := by
  have hu : why s.data.toList = why s.data.toList := rfl
  conv at hu => rhs; unfold why
  rw [toList_size] at hu
  by_cases h1 : s.size < 12
  · rw [if_pos h1] at hu
    rw [err_of hu (by omega)]
    exact refDecode_short s w h1
  rw [if_neg h1] at hu
  have i12 : 12 ≤ s.size := by omega
  rw [at_get s 0 (by omega), at_get s 1 (by omega), at_get s 2 (by omega), at_get s 3 (by omega)] at hu
  by_cases h2 : s[0] = 1 ∧ fit s[1] s[2] s[3]
  · rw [if_neg (Decidable.not_not.2 h2)] at hu
    by_cases h4 : 1048576 < word4 s.data.toList 4
    · rw [if_pos h4] at hu
      rw [err_of hu (by omega)]
      exact refDecode_long s hs w i12 h2.1 h2.2 h4
    rw [if_neg h4] at hu
    by_cases h5 : s.size < 12 + word4 s.data.toList 4
    · rw [if_pos h5] at hu
      rw [err_of hu (by omega)]
      exact refDecode_less s hs w i12 h2.1 h2.2 h4 h5
    rw [if_neg h5] at hu
    by_cases h6 : 12 + word4 s.data.toList 4 < s.size
    · rw [if_pos h6] at hu
      rw [err_of hu (by omega)]
      exact refDecode_more s hs w i12 h2.1 h2.2 h4 h6
    rw [if_neg h6] at hu
    have h56 : s.size = 12 + word4 s.data.toList 4 := by omega
    by_cases h7 : word4 s.data.toList (8 + word4 s.data.toList 4) = more 0 (s.data.toList.take (8 + word4 s.data.toList 4))
    · rw [if_neg (fun hh => hh h7)] at hu
      have e : dec s = (s[1], s[2], s[3], bodyOf s) := by unfold dec; rw [if_pos hu, at_get s 1 (by omega), at_get s 2 (by omega), at_get s 3 (by omega)]
      rw [hu, e]
      exact refDecode_ok s hs w i12 h2.1 h2.2 h4 h56 h7
    · rw [if_pos h7] at hu
      rw [err_of hu (by omega)]
      exact refDecode_sum s hs w i12 h2.1 h2.2 h4 h56 h7
  · rw [if_pos h2] at hu
    rw [err_of hu (by omega)]
    exact refDecode_form s w i12 h2
end Go.Proofs.YtioeidhblbfgmaaGreat.Frm


namespace Go.Proofs.YtioeidhblbfgmaaGreat
open Go.ChangeShapes Go.WideShapes Go.ChangeAt Go.RowKit
set_option linter.unusedVariables false
set_option linter.unusedSimpArgs false
set_option maxRecDepth 100000

theorem pair3 {α β γ : Type} (x : α × (β × γ)) : ∃ a b c, x = (a, (b, c)) := ⟨x.1, x.2.1, x.2.2, rfl⟩
structure Hd where
  k : Int
  f : Int
  t : Int
  id : Int
  tg : Int
  rn : Int
  fl : Bool
def mCells (h : Hd) (vn vk vr vs vd : Value) : Array Value := #[.int .u8 h.k, .int .u8 h.f, .int .u8 h.t, .int .u32 h.id, .int .u8 h.tg, .int .u8 h.rn, .bool h.fl, vn, vk, vr, vs, vd]
def zeroCells : Array Value := #[.int .u8 0, .int .u8 0, .int .u8 0, .int .u32 0, .int .u8 0, .int .u8 0, .bool false, .slice none 0 0, .slice none 0 0, .slice none 0 0, .slice none 0 0, .slice none 0 0]
structure UP (s : ByteArray) (w : World) (X M P : Nat) (h : Hd) (vn vk vr vs vd : Value) (ns : List Nw) (ks : List ByteArray) (rs : List R) (ss : List Sn) (ds : List Int) (q : Int) (g : Nat) (u : World) : Prop where
  x : At u X #[.string s, .int .i64 q, .int .i64 (g : Int)] 73
  m : At u M (mCells h vn vk vr vs vd) 29
  p : At u P zeroCells 29
  n : Og encN 3 79 u w.heap.size vn ns
  k : Og encK 1 9 u w.heap.size vk ks
  r : Og encR 8 57 u w.heap.size vr rs
  s : Og encS 5 59 u w.heap.size vs ss
  d : Og encG 1 53 u w.heap.size vd ds
  kept : Kept w u
  xw : w.heap.size ≤ X
  mw : w.heap.size ≤ M
  pw : w.heap.size ≤ P
  mp : M ≠ P
section
variable {s : ByteArray} {w u u' : World} {X M P : Nat} {h : Hd} {vn vk vr vs vd : Value} {ns : List Nw} {ks : List ByteArray} {rs : List R} {ss : List Sn} {ds : List Int} {q : Int} {g : Nat}
theorem up_xm (U : UP s w X M P h vn vk vr vs vd ns ks rs ss ds q g u) : X ≠ M ∧ X ≠ P := ⟨at_ne U.x U.m (by decide), at_ne U.x U.p (by decide)⟩
theorem up_kept (U : UP s w X M P h vn vk vr vs vd ns ks rs ss ds q g u) (k : Kept u u') : UP s w X M P h vn vk vr vs vd ns ks rs ss ds q g u' where
  x := at_kept U.x k
  m := at_kept U.m k
  p := at_kept U.p k
  n := og_stays U.n k
  k := og_stays U.k k
  r := og_stays U.r k
  s := og_stays U.s k
  d := og_stays U.d k
  kept := kept_trans U.kept k
  xw := U.xw
  mw := U.mw
  pw := U.pw
  mp := U.mp
/- The reader goes on. -/
theorem up_read (U : UP s w X M P h vn vk vr vs vd ns ks rs ss ds q g u) (q' : Int) (g' : Nat) : UP s w X M P h vn vk vr vs vd ns ks rs ss ds q' g' (set3 u X (.string s) (.int .i64 q') (.int .i64 (g' : Int))) where
  x := at_set3 U.x _ _ _
  m := at_out3 U.m (fun e => (up_xm U).1 e.symm) _ _ _
  p := at_out3 U.p (fun e => (up_xm U).2 e.symm) _ _ _
  n := og_out3 U.n U.x (by decide) _ _ _
  k := og_out3 U.k U.x (by decide) _ _ _
  r := og_out3 U.r U.x (by decide) _ _ _
  s := og_out3 U.s U.x (by decide) _ _ _
  d := og_out3 U.d U.x (by decide) _ _ _
  kept := kept_set3 U.kept U.xw _ _ _
  xw := U.xw
  mw := U.mw
  pw := U.pw
  mp := U.mp
theorem og_setM {α : Type} {enc : α → List Value} {c T B : Nat} {v : Value} {xs : List α} {cs : Array Value} (hO : Og enc c T u B v xs) (hM : At u M cs 29) (hTU : T ≠ 29) (o : Nat) (a : Value) : Og enc c T (u.setCell ⟨M, o, none⟩ a) B v xs :=
  og_tn hO (tn_set u M o a) (fun b hb => own_ne hO hM hTU b hb)
/- A cell of the message is laid. -/
theorem up_cell (U : UP s w X M P h vn vk vr vs vd ns ks rs ss ds q g u) (o : Nat) (a : Value) {h' : Hd} {vn' vk' vr' vs' vd' : Value} (hc : (mCells h vn vk vr vs vd).setIfInBounds o a = mCells h' vn' vk' vr' vs' vd')
    {ns' : List Nw} {ks' : List ByteArray} {rs' : List R} {ss' : List Sn} {ds' : List Int}
    (n : Og encN 3 79 u w.heap.size vn' ns') (k : Og encK 1 9 u w.heap.size vk' ks') (r : Og encR 8 57 u w.heap.size vr' rs') (sn : Og encS 5 59 u w.heap.size vs' ss') (d : Og encG 1 53 u w.heap.size vd' ds') :
    UP s w X M P h' vn' vk' vr' vs' vd' ns' ks' rs' ss' ds' q g (u.setCell ⟨M, o, none⟩ a) where
  x := at_other U.x (up_xm U).1 _ _
  m := by rw [← hc]; exact at_set U.m o a
  p := at_other U.p (fun e => U.mp e.symm) _ _
  n := og_setM n U.m (by decide) o a
  k := og_setM k U.m (by decide) o a
  r := og_setM r U.m (by decide) o a
  s := og_setM sn U.m (by decide) o a
  d := og_setM d U.m (by decide) o a
  kept := kept_set U.kept U.mw o a
  xw := U.xw
  mw := U.mw
  pw := U.pw
  mp := U.mp
theorem up_head (U : UP s w X M P h vn vk vr vs vd ns ks rs ss ds q g u) (o : Nat) (a : Value) {h' : Hd} (hc : (mCells h vn vk vr vs vd).setIfInBounds o a = mCells h' vn vk vr vs vd) : UP s w X M P h' vn vk vr vs vd ns ks rs ss ds q g (u.setCell ⟨M, o, none⟩ a) :=
  up_cell U o a hc U.n U.k U.r U.s U.d
theorem at_gr {Y T : Nat} {cs : Array Value} {α : Type} {enc : α → List Value} {c T' B : Nat} {v : Value} {xs : List α} (hY : At u Y cs T) (hO : Og enc c T' u B v xs) (hTU : T' ≠ T) (gr : u.grownBy u' v.ownBlock) : At u' Y cs T :=
  at_tn hY (tn_grown gr) (fun e => own_ne hO hY hTU Y e rfl)
theorem og_gr {α β : Type} {enc : α → List Value} {enc' : β → List Value} {c c' T T' B B' : Nat} {v v' : Value} {xs : List α} {ys : List β} (hY : Og enc' c' T u B' v' ys) (hO : Og enc c T' u B v xs) (hTU : T' ≠ T) (gr : u.grownBy u' v.ownBlock) : Og enc' c' T u' B' v' ys := by
  refine og_tn hY (tn_grown gr) (fun b hb e => ?_)
  obtain ⟨cs, hcs⟩ := own_at hY hb
  exact own_ne hO hcs hTU b e rfl
/- A row has grown, and lies in the message anew. -/
theorem up_news (U : UP s w X M P h vn vk vr vs vd ns ks rs ss ds q g u) (gr : u.grownBy u' vn.ownBlock) {vn' : Value} {ns' : List Nw} (hO : Og encN 3 79 u' w.heap.size vn' ns') : UP s w X M P h vn' vk vr vs vd ns' ks rs ss ds q g (u'.setCell ⟨M, 7, none⟩ vn') where
  x := at_other (at_gr U.x U.n (by decide) gr) (up_xm U).1 _ _
  m := at_set (at_gr U.m U.n (by decide) gr) 7 vn'
  p := at_other (at_gr U.p U.n (by decide) gr) (fun e => U.mp e.symm) _ _
  n := og_setM hO (at_gr U.m U.n (by decide) gr) (by decide) _ _
  k := og_setM (og_gr U.k U.n (by decide) gr) (at_gr U.m U.n (by decide) gr) (by decide) _ _
  r := og_setM (og_gr U.r U.n (by decide) gr) (at_gr U.m U.n (by decide) gr) (by decide) _ _
  s := og_setM (og_gr U.s U.n (by decide) gr) (at_gr U.m U.n (by decide) gr) (by decide) _ _
  d := og_setM (og_gr U.d U.n (by decide) gr) (at_gr U.m U.n (by decide) gr) (by decide) _ _
  kept := kept_set (kept_gr U.kept gr (fun b hb => og_lt U.n hb)) U.mw _ _
  xw := U.xw
  mw := U.mw
  pw := U.pw
  mp := U.mp
theorem up_keys (U : UP s w X M P h vn vk vr vs vd ns ks rs ss ds q g u) (gr : u.grownBy u' vk.ownBlock) {vk' : Value} {ks' : List ByteArray} (hO : Og encK 1 9 u' w.heap.size vk' ks') : UP s w X M P h vn vk' vr vs vd ns ks' rs ss ds q g (u'.setCell ⟨M, 8, none⟩ vk') where
  x := at_other (at_gr U.x U.k (by decide) gr) (up_xm U).1 _ _
  m := at_set (at_gr U.m U.k (by decide) gr) 8 vk'
  p := at_other (at_gr U.p U.k (by decide) gr) (fun e => U.mp e.symm) _ _
  n := og_setM (og_gr U.n U.k (by decide) gr) (at_gr U.m U.k (by decide) gr) (by decide) _ _
  k := og_setM hO (at_gr U.m U.k (by decide) gr) (by decide) _ _
  r := og_setM (og_gr U.r U.k (by decide) gr) (at_gr U.m U.k (by decide) gr) (by decide) _ _
  s := og_setM (og_gr U.s U.k (by decide) gr) (at_gr U.m U.k (by decide) gr) (by decide) _ _
  d := og_setM (og_gr U.d U.k (by decide) gr) (at_gr U.m U.k (by decide) gr) (by decide) _ _
  kept := kept_set (kept_gr U.kept gr (fun b hb => og_lt U.k hb)) U.mw _ _
  xw := U.xw
  mw := U.mw
  pw := U.pw
  mp := U.mp
theorem up_recs (U : UP s w X M P h vn vk vr vs vd ns ks rs ss ds q g u) (gr : u.grownBy u' vr.ownBlock) {vr' : Value} {rs' : List R} (hO : Og encR 8 57 u' w.heap.size vr' rs') : UP s w X M P h vn vk vr' vs vd ns ks rs' ss ds q g (u'.setCell ⟨M, 9, none⟩ vr') where
  x := at_other (at_gr U.x U.r (by decide) gr) (up_xm U).1 _ _
  m := at_set (at_gr U.m U.r (by decide) gr) 9 vr'
  p := at_other (at_gr U.p U.r (by decide) gr) (fun e => U.mp e.symm) _ _
  n := og_setM (og_gr U.n U.r (by decide) gr) (at_gr U.m U.r (by decide) gr) (by decide) _ _
  k := og_setM (og_gr U.k U.r (by decide) gr) (at_gr U.m U.r (by decide) gr) (by decide) _ _
  r := og_setM hO (at_gr U.m U.r (by decide) gr) (by decide) _ _
  s := og_setM (og_gr U.s U.r (by decide) gr) (at_gr U.m U.r (by decide) gr) (by decide) _ _
  d := og_setM (og_gr U.d U.r (by decide) gr) (at_gr U.m U.r (by decide) gr) (by decide) _ _
  kept := kept_set (kept_gr U.kept gr (fun b hb => og_lt U.r hb)) U.mw _ _
  xw := U.xw
  mw := U.mw
  pw := U.pw
  mp := U.mp
end
/- A message as a value, and its rows. -/
def set12 (w : World) (G : Nat) (a0 a1 a2 a3 a4 a5 a6 a7 a8 a9 a10 a11 : Value) : World := (((((((((((w.setCell ⟨G, 0, none⟩ a0).setCell ⟨G, 1, none⟩ a1).setCell ⟨G, 2, none⟩ a2).setCell ⟨G, 3, none⟩ a3).setCell ⟨G, 4, none⟩ a4).setCell ⟨G, 5, none⟩ a5).setCell ⟨G, 6, none⟩ a6).setCell ⟨G, 7, none⟩ a7).setCell ⟨G, 8, none⟩ a8).setCell ⟨G, 9, none⟩ a9).setCell ⟨G, 10, none⟩ a10).setCell ⟨G, 11, none⟩ a11
theorem at_set12' {w : World} {G T : Nat} {v0 v1 v2 v3 v4 v5 v6 v7 v8 v9 v10 v11 : Value} (h : At w G #[v0, v1, v2, v3, v4, v5, v6, v7, v8, v9, v10, v11] T) (a0 a1 a2 a3 a4 a5 a6 a7 a8 a9 a10 a11 : Value) : At (set12 w G a0 a1 a2 a3 a4 a5 a6 a7 a8 a9 a10 a11) G #[a0, a1, a2, a3, a4, a5, a6, a7, a8, a9, a10, a11] T := by
  have h0 : At (w.setCell ⟨G, 0, none⟩ a0) G #[a0, v1, v2, v3, v4, v5, v6, v7, v8, v9, v10, v11] T := at_set h 0 a0
  have h1 : At ((w.setCell ⟨G, 0, none⟩ a0).setCell ⟨G, 1, none⟩ a1) G #[a0, a1, v2, v3, v4, v5, v6, v7, v8, v9, v10, v11] T := at_set h0 1 a1
  have h2 : At (((w.setCell ⟨G, 0, none⟩ a0).setCell ⟨G, 1, none⟩ a1).setCell ⟨G, 2, none⟩ a2) G #[a0, a1, a2, v3, v4, v5, v6, v7, v8, v9, v10, v11] T := at_set h1 2 a2
  have h3 : At ((((w.setCell ⟨G, 0, none⟩ a0).setCell ⟨G, 1, none⟩ a1).setCell ⟨G, 2, none⟩ a2).setCell ⟨G, 3, none⟩ a3) G #[a0, a1, a2, a3, v4, v5, v6, v7, v8, v9, v10, v11] T := at_set h2 3 a3
  have h4 : At (((((w.setCell ⟨G, 0, none⟩ a0).setCell ⟨G, 1, none⟩ a1).setCell ⟨G, 2, none⟩ a2).setCell ⟨G, 3, none⟩ a3).setCell ⟨G, 4, none⟩ a4) G #[a0, a1, a2, a3, a4, v5, v6, v7, v8, v9, v10, v11] T := at_set h3 4 a4
  have h5 : At ((((((w.setCell ⟨G, 0, none⟩ a0).setCell ⟨G, 1, none⟩ a1).setCell ⟨G, 2, none⟩ a2).setCell ⟨G, 3, none⟩ a3).setCell ⟨G, 4, none⟩ a4).setCell ⟨G, 5, none⟩ a5) G #[a0, a1, a2, a3, a4, a5, v6, v7, v8, v9, v10, v11] T := at_set h4 5 a5
  have h6 : At (((((((w.setCell ⟨G, 0, none⟩ a0).setCell ⟨G, 1, none⟩ a1).setCell ⟨G, 2, none⟩ a2).setCell ⟨G, 3, none⟩ a3).setCell ⟨G, 4, none⟩ a4).setCell ⟨G, 5, none⟩ a5).setCell ⟨G, 6, none⟩ a6) G #[a0, a1, a2, a3, a4, a5, a6, v7, v8, v9, v10, v11] T := at_set h5 6 a6
  have h7 : At ((((((((w.setCell ⟨G, 0, none⟩ a0).setCell ⟨G, 1, none⟩ a1).setCell ⟨G, 2, none⟩ a2).setCell ⟨G, 3, none⟩ a3).setCell ⟨G, 4, none⟩ a4).setCell ⟨G, 5, none⟩ a5).setCell ⟨G, 6, none⟩ a6).setCell ⟨G, 7, none⟩ a7) G #[a0, a1, a2, a3, a4, a5, a6, a7, v8, v9, v10, v11] T := at_set h6 7 a7
  have h8 : At (((((((((w.setCell ⟨G, 0, none⟩ a0).setCell ⟨G, 1, none⟩ a1).setCell ⟨G, 2, none⟩ a2).setCell ⟨G, 3, none⟩ a3).setCell ⟨G, 4, none⟩ a4).setCell ⟨G, 5, none⟩ a5).setCell ⟨G, 6, none⟩ a6).setCell ⟨G, 7, none⟩ a7).setCell ⟨G, 8, none⟩ a8) G #[a0, a1, a2, a3, a4, a5, a6, a7, a8, v9, v10, v11] T := at_set h7 8 a8
  have h9 : At ((((((((((w.setCell ⟨G, 0, none⟩ a0).setCell ⟨G, 1, none⟩ a1).setCell ⟨G, 2, none⟩ a2).setCell ⟨G, 3, none⟩ a3).setCell ⟨G, 4, none⟩ a4).setCell ⟨G, 5, none⟩ a5).setCell ⟨G, 6, none⟩ a6).setCell ⟨G, 7, none⟩ a7).setCell ⟨G, 8, none⟩ a8).setCell ⟨G, 9, none⟩ a9) G #[a0, a1, a2, a3, a4, a5, a6, a7, a8, a9, v10, v11] T := at_set h8 9 a9
  have h10 : At (((((((((((w.setCell ⟨G, 0, none⟩ a0).setCell ⟨G, 1, none⟩ a1).setCell ⟨G, 2, none⟩ a2).setCell ⟨G, 3, none⟩ a3).setCell ⟨G, 4, none⟩ a4).setCell ⟨G, 5, none⟩ a5).setCell ⟨G, 6, none⟩ a6).setCell ⟨G, 7, none⟩ a7).setCell ⟨G, 8, none⟩ a8).setCell ⟨G, 9, none⟩ a9).setCell ⟨G, 10, none⟩ a10) G #[a0, a1, a2, a3, a4, a5, a6, a7, a8, a9, a10, v11] T := at_set h9 10 a10
  have h11 : At ((((((((((((w.setCell ⟨G, 0, none⟩ a0).setCell ⟨G, 1, none⟩ a1).setCell ⟨G, 2, none⟩ a2).setCell ⟨G, 3, none⟩ a3).setCell ⟨G, 4, none⟩ a4).setCell ⟨G, 5, none⟩ a5).setCell ⟨G, 6, none⟩ a6).setCell ⟨G, 7, none⟩ a7).setCell ⟨G, 8, none⟩ a8).setCell ⟨G, 9, none⟩ a9).setCell ⟨G, 10, none⟩ a10).setCell ⟨G, 11, none⟩ a11) G #[a0, a1, a2, a3, a4, a5, a6, a7, a8, a9, a10, a11] T := at_set h10 11 a11
  exact h11
theorem at_set12 {w : World} {G T : Nat} (h : At w G zeroCells T) (a0 a1 a2 a3 a4 a5 a6 a7 a8 a9 a10 a11 : Value) : At (set12 w G a0 a1 a2 a3 a4 a5 a6 a7 a8 a9 a10 a11) G #[a0, a1, a2, a3, a4, a5, a6, a7, a8, a9, a10, a11] T := at_set12' h a0 a1 a2 a3 a4 a5 a6 a7 a8 a9 a10 a11
theorem turn_set12 {w u : World} {G : Nat} (h : Turn G w u) (a0 a1 a2 a3 a4 a5 a6 a7 a8 a9 a10 a11 : Value) : Turn G w (set12 u G a0 a1 a2 a3 a4 a5 a6 a7 a8 a9 a10 a11) := turn_set (turn_set (turn_set (turn_set (turn_set (turn_set (turn_set (turn_set (turn_set (turn_set (turn_set (turn_set h _ _) _ _) _ _) _ _) _ _) _ _) _ _) _ _) _ _) _ _) _ _) _ _
theorem tn_set12 (u : World) (G : Nat) (a0 a1 a2 a3 a4 a5 a6 a7 a8 a9 a10 a11 : Value) : Tn (fun b => b = G) u (set12 u G a0 a1 a2 a3 a4 a5 a6 a7 a8 a9 a10 a11) := tn_turn (turn_set12 (Turn.refl G u) a0 a1 a2 a3 a4 a5 a6 a7 a8 a9 a10 a11)
theorem at_out12 {w : World} {X T G : Nat} {cs : Array Value} (h : At w X cs T) (hn : X ≠ G) (a0 a1 a2 a3 a4 a5 a6 a7 a8 a9 a10 a11 : Value) : At (set12 w G a0 a1 a2 a3 a4 a5 a6 a7 a8 a9 a10 a11) X cs T := at_tn h (tn_set12 w G a0 a1 a2 a3 a4 a5 a6 a7 a8 a9 a10 a11) hn
theorem kept_set12 {W w : World} (h : Kept W w) {G : Nat} (hG : W.heap.size ≤ G) (a0 a1 a2 a3 a4 a5 a6 a7 a8 a9 a10 a11 : Value) : Kept W (set12 w G a0 a1 a2 a3 a4 a5 a6 a7 a8 a9 a10 a11) := kept_tn (tn_set12 w G a0 a1 a2 a3 a4 a5 a6 a7 a8 a9 a10 a11) h (fun b hb => by rw [hb]; exact hG)
theorem turnS8 {w u : World} {G : Nat} (h : Turn G w u) (a0 a1 a2 a3 a4 a5 a6 a7 : Value) : Turn G w (set8 u G a0 a1 a2 a3 a4 a5 a6 a7) := turn_set (turn_set (turn_set (turn_set (turn_set (turn_set (turn_set (turn_set h _ _) _ _) _ _) _ _) _ _) _ _) _ _) _ _
theorem tn_set8 (u : World) (G : Nat) (a0 a1 a2 a3 a4 a5 a6 a7 : Value) : Tn (fun b => b = G) u (set8 u G a0 a1 a2 a3 a4 a5 a6 a7) := tn_turn (turnS8 (Turn.refl G u) _ _ _ _ _ _ _ _)
theorem resMI {fn : Func} {p q : Tmp} (h : fn.results = #[.cell p 29, .tmp q]) (tmps : Array Value) {w : World} {X T : Nat} {r a0 a1 a2 a3 a4 a5 a6 a7 a8 a9 a10 a11 : Value} (hp : tmps.getD p undef = .pointer (some ⟨X, 0, none⟩)) (hq : tmps.getD q undef = r) (hA : At w X #[a0, a1, a2, a3, a4, a5, a6, a7, a8, a9, a10, a11] T) :
    (results fn tmps).run Tryz.prog w = .ok (.tuple #[.agg #[a0, a1, a2, a3, a4, a5, a6, a7, a8, a9, a10, a11], r]) w := by
  obtain ⟨⟨c0, c1, c2, c3, c4, c5, c6, c7, c8, c9, ca, cb⟩, -⟩ := cells12 hA
  have hp' : tmps[p]?.getD undef = .pointer (some ⟨X, 0, none⟩) := by simpa using hp
  have hq' : tmps[q]?.getD undef = r := by simpa using hq
  simp [results, h, go_sem, hp', hq', c0, c1, c2, c3, c4, c5, c6, c7, c8, c9, ca, cb]
theorem og_out12 {α : Type} {enc : α → List Value} {c T B P : Nat} {u : World} {v : Value} {xs : List α} {cs : Array Value} (hO : Og enc c T u B v xs) (hP : At u P cs 29) (hTU : T ≠ 29) (a0 a1 a2 a3 a4 a5 a6 a7 a8 a9 a10 a11 : Value) : Og enc c T (set12 u P a0 a1 a2 a3 a4 a5 a6 a7 a8 a9 a10 a11) B v xs :=
  og_tn hO (tn_set12 u P a0 a1 a2 a3 a4 a5 a6 a7 a8 a9 a10 a11) (fun b hb => own_ne hO hP hTU b hb)
section
variable {s : ByteArray} {w u u' u0 : World} {X M P : Nat} {h : Hd} {vn vk vr vs vd : Value} {ns : List Nw} {ks : List ByteArray} {rs : List R} {ss : List Sn} {ds : List Int} {q : Int} {g : Nat} {F : Nat → Prop}
theorem msr_up (U : UP s w X M P h vn vk vr vs vd ns ks rs ss ds q g u) (a0 a1 a2 a3 a4 a5 a6 a7 a8 a9 a10 a11 : Value) : MsR (set12 u P a0 a1 a2 a3 a4 a5 a6 a7 a8 a9 a10 a11) vn vk vr vs vd ⟨h.k, h.f, h.t, h.id, h.tg, h.rn, h.fl, ns, ks, rs, ss, ds⟩ :=
  ⟨rg_own encN_ok (og_out12 U.n U.p (by decide) a0 a1 a2 a3 a4 a5 a6 a7 a8 a9 a10 a11), rg_own encK_ok (og_out12 U.k U.p (by decide) a0 a1 a2 a3 a4 a5 a6 a7 a8 a9 a10 a11), rg_own encR_ok (og_out12 U.r U.p (by decide) a0 a1 a2 a3 a4 a5 a6 a7 a8 a9 a10 a11), rg_own encS_ok (og_out12 U.s U.p (by decide) a0 a1 a2 a3 a4 a5 a6 a7 a8 a9 a10 a11), rg_own encG_ok (og_out12 U.d U.p (by decide) a0 a1 a2 a3 a4 a5 a6 a7 a8 a9 a10 a11)⟩
theorem up_beyond (U : UP s w X M P h vn vk vr vs vd ns ks rs ss ds q g u0) (t : Tn F u u') (k : Kept u0 u) (hF : ∀ b, F b → u0.heap.size ≤ b) : UP s w X M P h vn vk vr vs vd ns ks rs ss ds q g u' where
  x := at_tn (at_kept U.x k) t (fun e => by have h1 := at_lt U.x; have h2 := hF _ e; omega)
  m := at_tn (at_kept U.m k) t (fun e => by have h1 := at_lt U.m; have h2 := hF _ e; omega)
  p := at_tn (at_kept U.p k) t (fun e => by have h1 := at_lt U.p; have h2 := hF _ e; omega)
  n := og_tn (og_stays U.n k) t (fun b hb e => by have h1 := (World.ownsRow.lt U.n b hb).2; have h2 := hF _ e; omega)
  k := og_tn (og_stays U.k k) t (fun b hb e => by have h1 := (World.ownsRow.lt U.k b hb).2; have h2 := hF _ e; omega)
  r := og_tn (og_stays U.r k) t (fun b hb e => by have h1 := (World.ownsRow.lt U.r b hb).2; have h2 := hF _ e; omega)
  s := og_tn (og_stays U.s k) t (fun b hb e => by have h1 := (World.ownsRow.lt U.s b hb).2; have h2 := hF _ e; omega)
  d := og_tn (og_stays U.d k) t (fun b hb e => by have h1 := (World.ownsRow.lt U.d b hb).2; have h2 := hF _ e; omega)
  kept := kept_tn t (kept_trans U.kept k) (fun b hb => Nat.le_trans U.kept.2 (hF b hb))
  xw := U.xw
  mw := U.mw
  pw := U.pw
  mp := U.mp
end
def UnE (R : Ms × Nat) (w : World) (e : Ending) (w' : World) : Prop := ∃ vn vk vr vs vd, e = .returned (.tuple #[msgV R.1 vn vk vr vs vd, .int .i64 (R.2 : Int)]) ∧ MsR w' vn vk vr vs vd R.1 ∧ Kept w w'
end Go.Proofs.YtioeidhblbfgmaaGreat
