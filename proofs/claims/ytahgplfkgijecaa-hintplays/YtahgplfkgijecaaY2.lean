/- The contracts of slices.IndexFunc and slices.DeleteFunc at rows of hints, for a closure that only reads what isn't the row (PredOk). Rows have at most 1000 members. Who has a hint, bit by bit; the contracts of the landed bit, has and fresh. The contract of slices.Insert of one hint at any place of a row of hints. Rows have at most 1000 members. The contract of slices.Insert of one hint within a row of hints: where there is room, and where there is none. Rows have at most 1000 members. The contracts of the landed place: a halving search in a row of hints by rising keys (slices.BinarySearchFunc). Rows have at most 1000 members. The contracts of the landed fresh and settled, and of Settle's closure. Keys have at most 1000 bytes, rows of nodes at most 4096. The landed hints as they lie in memory; the contracts of New, Len and place, and of nil hints. -/
import Derived.Test.YtahgplfkgijecaaY1
import Derived.Test.YtahgplfkgijecaaHtLaw2
import Derived.Test.YtahgplfkgijecaaHpMiss
import Derived.Test.YtahgplfkgijecaaGPut
import Derived.Test.YtahgplfkgijecaaGSet
import Derived.Test.YtahgplfkgijecaaGTn
import Derived.Deep.MidRow
import Derived.Shelf.Abstract
import Derived.Test.YtahgplfkgijecaaHpSame
import Derived.Test.YtahgplfkgijecaaClone
import Derived.BigQuiet
import Derived.Test.YtahgplfkgijecaaGLand
import Derived.Lib.AppendZerosOnto
import Derived.Lib.Overlaps
import Derived.Laws.NewBlocks
import Derived.Test.YtahgplfkgijecaaHtIs

namespace Go.Proofs.Ytahgplfkgijecaa
open Go.ChangeShapes Go.WideShapes Go.ChangeAt Go.RowKit
set_option linter.unusedVariables false
set_option linter.unusedSimpArgs false
set_option maxRecDepth 100000

def zeroH : Ht := ⟨zeroRec, nob⟩
theorem infoH : (Try.prog.info? 61).map (fun i => (i.zero, i.size, i.bytes)) = some (some (.agg (encH zeroH).toArray), 9, 72) := by kernel_rfl
theorem sizeH : (Try.prog.info? 61).map (·.size) = some 9 := by kernel_rfl
theorem tyH : TyG Try.prog 52 61 9 72 := by
  obtain ⟨i0, hi, hz0, hz1, hz2⟩ := info_parts infoH
  exact ⟨Try.underlying52, i0, _, hi, hz0, hz1, hz2, rfl⟩
theorem og_there {α : Type} {enc : α → List Value} {c : Nat} {T : TypeId} {w : World} {G n cap B : Nat} {xs : List α} (h : Og enc c T w B (.slice (some ⟨G, 0, none⟩) n cap) xs) {i : Nat} (hi : i < n) : w.there G (i * c) c := by
  obtain ⟨cur, hg, _, _, hn, _, hs, _⟩ := og_whole h
  intro j hj
  refine ⟨?_, og_frozen h _⟩
  have m1 : (i + 1) * c ≤ n * c := Nat.mul_le_mul_right _ hi
  have m2 : n * c ≤ cap * c := Nat.mul_le_mul_right _ hn
  rw [Nat.add_mul, Nat.one_mul] at m1
  have h2 : i * c + j < cur.size := by
    rw [hs]
    omega
  rw [at_cell hg, Array.getElem?_eq_getElem h2]
  rfl
/- A hint laid whole: cell by cell. -/
theorem og_setH {w : World} {B G n cap : Nat} {xs : List Ht} (h : Og encH 9 61 w B (.slice (some ⟨G, 0, none⟩) n cap) xs) {k : Nat} (hk : k < n) (y : Ht) : Og encH 9 61 (((((((((w.setCell ⟨G, k * 9, none⟩ (.string y.r.key)).setCell ⟨G, k * 9 + 1, none⟩ (.int .u64 y.r.s.p)).setCell ⟨G, k * 9 + 2, none⟩ (.int .u32 y.r.s.l)).setCell ⟨G, k * 9 + 3, none⟩ (.int .u8 y.r.s.n)).setCell ⟨G, k * 9 + 4, none⟩ (.int .u8 y.r.kind)).setCell ⟨G, k * 9 + 5, none⟩ (.int .u32 y.r.flags)).setCell ⟨G, k * 9 + 6, none⟩ (.int .u64 y.r.exp)).setCell ⟨G, k * 9 + 7, none⟩ (.string y.r.body)).setCell ⟨G, k * 9 + 8, none⟩ (.int .u64 (ackI y.has 64))) B (.slice (some ⟨G, 0, none⟩) n cap) (xs.set k y) := og_setM encH_ok h hk y
theorem turn_setH {G k : Nat} {u w : World} (h : Turn G u w) (y : Ht) : Turn G u (((((((((w.setCell ⟨G, k * 9, none⟩ (.string y.r.key)).setCell ⟨G, k * 9 + 1, none⟩ (.int .u64 y.r.s.p)).setCell ⟨G, k * 9 + 2, none⟩ (.int .u32 y.r.s.l)).setCell ⟨G, k * 9 + 3, none⟩ (.int .u8 y.r.s.n)).setCell ⟨G, k * 9 + 4, none⟩ (.int .u8 y.r.kind)).setCell ⟨G, k * 9 + 5, none⟩ (.int .u32 y.r.flags)).setCell ⟨G, k * 9 + 6, none⟩ (.int .u64 y.r.exp)).setCell ⟨G, k * 9 + 7, none⟩ (.string y.r.body)).setCell ⟨G, k * 9 + 8, none⟩ (.int .u64 (ackI y.has 64))) :=
  turn_set (turn_set (turn_set (turn_set (turn_set (turn_set (turn_set (turn_set (turn_set h _ _) _ _) _ _) _ _) _ _) _ _) _ _) _ _) _ _
def Enters (g : Nat) : Prop := ∀ (args : Array Value) (w : World), (callFunc g args).run Try.prog w = .ok (.enter g args) w
def PredOk (g : Nat) (c : Value) (p : Ht → Bool) (l : List Ht) (G : Nat) (w : World) : Prop := ∀ (u : World) (q : Ht), q ∈ l → Turn G w u → Calls Try.prog g #[.agg #[.string q.r.key, .int .u64 q.r.s.p, .int .u32 q.r.s.l, .int .u8 q.r.s.n, .int .u8 q.r.kind, .int .u32 q.r.flags, .int .u64 q.r.exp, .string q.r.body, .int .u64 (ackI q.has 64)], c] u fun e u' => e = .returned (.bool (p q)) ∧ Kept u u'
/- The first one that goes. -/
def fstH (p : Ht → Bool) (l : List Ht) (i : Nat) : Prop := i < l.length ∧ (∃ q, l[i]? = some q ∧ p q = true) ∧ ∀ (j : Nat) (q : Ht), j < i → l[j]? = some q → p q = false
def IdxC (p : Ht → Bool) (l : List Ht) (w : World) (e : Ending) (w' : World) : Prop := ∃ z, e = .returned (.int .i64 z) ∧ ((z = -1 ∧ ∀ (j : Nat) (q : Ht), l[j]? = some q → p q = false) ∨ ∃ i : Nat, z = (i : Int) ∧ fstH p l i) ∧ Kept w w'
set_option maxHeartbeats 1600000 in
theorem idx_any {g G : Nat} {c : Value} {p : Ht → Bool} {l : List Ht} (eg : Enters g) (hl : l.length ≤ 1000) (v : Value) (w : World) (h : Rg encH 9 w v l) (hp : PredOk g c p l G w) :
    Calls Try.prog 63 #[v, .func (.func g) #[] #[c]] w (IdxC p l w) := by
  have HR := hid h
  have HP := hid hp
  obtain ⟨a, cap, rfl, -, -, -, -⟩ := h
  have HG : Hid (∀ k : Nat, k < l.length → ∃ y, l[k]? = some y) := hid (fun k hk => ⟨l[k], List.getElem?_eq_getElem hk⟩)
  have HQ : Hid (0 < l.length → ∃ g o, a = some ⟨g, o, none⟩) := hid (fun hp => by
    obtain ⟨g, o, c, e⟩ := rg_pos HR.out hp
    injection e with e1
    exact ⟨g, o, e1⟩)
  have HL : Hid (∀ (j : Nat) (q : Ht), l[j]? = some q → j < l.length) := hid (fun j q hj => (List.getElem?_eq_some_iff.1 hj).1)
  have eg2 : ∀ (args : Array Value) (w : World), (callFunc g args).run Try.prog w = .ok (.enter g args) w := eg
  clear hp eg
  generalize hnn : l.length = n at *
  go_enter Try.func63, Try.ntmps63
  go_wp2_with fail
  go_loopw [8] (fun j wr => ∃ k : Nat, k ≤ n ∧ j = .int .i64 (k : Int) ∧ Hid (∀ (j : Nat) (q : Ht), j < k → l[j]? = some q → p q = false) ∧ Hid (Kept w wr)) (fun j _ => n - (intOf j).toNat)
  case atStart => exact ⟨0, Nat.zero_le _, rfl, hid (fun j q hj => by omega), hid (kept_refl w)⟩
  case round =>
    obtain ⟨k, hk, rfl, HN, HK⟩ := hrel
    by_cases hlt : k < n
    · have hltz : (k : Int) < (n : Int) := by omega
      obtain ⟨y, hy⟩ := HG.out k hlt
      obtain ⟨g1, o, rfl⟩ := HQ.out (by omega)
      obtain ⟨c0, c1, c2, c3, c4, c5, c6, c7, c8⟩ := rg_H (rg_kept encH_ok HR.out HK.out) hy
      have hC := HP.out wr y (List.mem_of_getElem? hy) (turn_kept HK.out)
      have HY := hid hy
      clear hy
      cases hb : p y with
      | false =>
        rw [hb] at hC
        have HB := hid hb
        clear hb
        go_wp2_with fail
        refine hC.mono ?_
        rintro e w1 ⟨rfl, k1⟩
        have HK1 := hid (kept_trans HK.out k1)
        clear k1 hC c0 c1 c2 c3 c4 c5 c6 c7 c8
        go_wp2_with fail
        go_roundw
        case rel =>
          refine ⟨k + 1, by omega, by go_num, hid (fun j q h1 h2 => ?_), HK1⟩
          by_cases e : j = k
          · subst e
            rw [HY.out] at h2
            injection h2 with h2
            rw [← h2]; exact HB.out
          · exact HN.out j q (by omega) h2
        case measure => simp [intOf]; omega
      | true =>
        rw [hb] at hC
        have HB := hid hb
        clear hb
        go_wp2_with fail
        refine hC.mono ?_
        rintro e w1 ⟨rfl, k1⟩
        have HK1 := hid (kept_trans HK.out k1)
        clear k1 hC c0 c1 c2 c3 c4 c5 c6 c7 c8
        go_wp2_with fail
        go_ret
        exact ⟨_, rfl, .inr ⟨k, rfl, by rw [hnn]; exact hlt, ⟨y, HY.out, HB.out⟩, HN.out⟩, HK1.out⟩
    · have hltz : ¬ (k : Int) < (n : Int) := by omega
      go_wp2_with fail
      go_ret
      exact ⟨_, rfl, .inl ⟨rfl, fun j q hj => HN.out j q (by have := HL.out j q hj; omega) hj⟩, HK.out⟩
/- The row while hints go: what stays of the first j, then anything, then the rest as it was. -/
structure Mov (p : Ht → Bool) (l M : List Ht) (i j : Nat) : Prop where
  len : M.length = l.length
  lt : i < j
  le : j ≤ l.length
  low : M.take i = (l.take j).filter (fun q => !p q)
  high : M.drop j = l.drop j
theorem filter_next {p : Ht → Bool} {l : List Ht} {k : Nat} {y : Ht} (h : l[k]? = some y) : (l.take (k + 1)).filter p = (l.take k).filter p ++ (if p y then [y] else []) := by
  rw [take_next h, List.filter_append]
  congr 1
  cases e : p y <;> simp [e]
theorem mov_start {p : Ht → Bool} {l : List Ht} {i : Nat} (h : fstH p l i) : Mov p l l i (i + 1) := by
  obtain ⟨h1, ⟨q, hq, hp⟩, h3⟩ := h
  refine ⟨rfl, by omega, by omega, ?_, rfl⟩
  rw [filter_next hq, hp, if_neg (by simp), List.append_nil]
  refine (List.filter_eq_self.2 (fun x hx => ?_)).symm
  obtain ⟨j, hj⟩ := List.mem_iff_getElem?.1 hx
  rw [List.getElem?_take] at hj
  split at hj
  · rw [h3 j x (by omega) hj]; rfl
  · cases hj
theorem mov_skip {p : Ht → Bool} {l M : List Ht} {i j : Nat} {y : Ht} (h : Mov p l M i j) (hy : l[j]? = some y) (hp : p y = true) : Mov p l M i (j + 1) := by
  have hj := (List.getElem?_eq_some_iff.1 hy).1
  refine ⟨h.len, by have := h.lt; omega, hj, ?_, ?_⟩
  · rw [filter_next hy, hp, if_neg (by simp), List.append_nil]; exact h.low
  · have := congrArg (List.drop 1) h.high
    rw [List.drop_drop, List.drop_drop] at this
    exact this
theorem mov_keep {p : Ht → Bool} {l M : List Ht} {i j : Nat} {y : Ht} (h : Mov p l M i j) (hy : l[j]? = some y) (hp : p y = false) : Mov p l (M.set i y) (i + 1) (j + 1) := by
  have hj := (List.getElem?_eq_some_iff.1 hy).1
  have hi := h.lt
  have hl := h.len
  refine ⟨by rw [List.length_set]; exact hl, by omega, hj, ?_, ?_⟩
  · have hg : (M.set i y)[i]? = some y := by rw [List.getElem?_set, if_pos rfl, if_pos (by omega)]
    rw [filter_next hy, hp, if_pos (by simp), ← h.low, take_next hg]
    congr 1
    rw [List.take_set_of_le (Nat.le_refl _)]
  · rw [List.drop_set_of_lt (by omega)]
    have := congrArg (List.drop 1) h.high
    rw [List.drop_drop, List.drop_drop] at this
    exact this
theorem mov_done {p : Ht → Bool} {l M : List Ht} {i : Nat} (h : Mov p l M i l.length) : M.take i = l.filter (fun q => !p q) := by rw [h.low, List.take_length]
theorem mov_get {p : Ht → Bool} {l M : List Ht} {i j : Nat} (h : Mov p l M i j) : M[j]? = l[j]? := by
  have := congrArg (fun x => x[0]?) h.high
  simp only [List.getElem?_drop, Nat.add_zero] at this
  exact this
def DelC (v : Value) (l : List Ht) (w : World) (G : Nat) (e : Ending) (w' : World) : Prop := ∃ v', e = .returned v' ∧ Og encH 9 61 w' 0 v' l ∧ v'.ownBlock = v.ownBlock ∧ Turn G w w'
set_option maxHeartbeats 6400000 in
theorem del_some {g G n cap : Nat} {c : Value} {p : Ht → Bool} {l : List Ht} (eg : Enters g) (hl : l.length ≤ 1000) (w : World) (h : Og encH 9 61 w 0 (.slice (some ⟨G, 0, none⟩) n cap) l) (hp : PredOk g c p l G w) :
    Calls Try.prog 39 #[.slice (some ⟨G, 0, none⟩) n cap, .func (.func g) #[] #[c]] w (DelC (.slice (some ⟨G, 0, none⟩) n cap) (l.filter (fun q => !p q)) w G) := by
  have hI := idx_any eg hl _ w (rg_own encH_ok h) hp
  have HO := hid h
  have HP := hid hp
  have hln := (og_len encH_ok h).1
  have HC : Hid (n ≤ cap ∧ cap ≤ maxLen) := hid (og_len encH_ok h).2
  have hn : n ≤ 1000 := by omega
  have HLn := hid hln
  have eg2 : ∀ (args : Array Value) (w : World), (callFunc g args).run Try.prog w = .ok (.enter g args) w := eg
  clear hp eg h hln hl
  go_enter Try.func39, Try.ntmps39
  go_wp2_with fail
  refine hI.mono ?_
  rintro e w1 ⟨z, rfl, hz, k1⟩
  have HK1 := hid k1
  clear k1 hI
  rcases hz with ⟨rfl, hall⟩ | ⟨i, rfl, hf⟩
  · have HA := hid hall
    clear hall
    go_wp2_with fail
    go_ret
    refine ⟨_, rfl, ?_, rfl, turn_kept HK1.out⟩
    rw [List.filter_eq_self.2 (fun x hx => by
      obtain ⟨j, hj⟩ := List.mem_iff_getElem?.1 hx
      rw [HA.out j x hj]; rfl)]
    exact og_stays HO.out HK1.out
  · have HM := hid (mov_start hf)
    have hi : i < n := by have := hf.1; have := HLn.out; omega
    have hne : ((i : Int) == -1) = false := by rw [beq_eq_false_iff_ne]; omega
    clear hf
    go_wp2_with fail
    go_loopw [5, 6] (fun s5 s6 wr => ∃ (i j : Nat) (M : List Ht), s5 = .int .i64 (i : Int) ∧ s6 = .int .i64 (j : Int) ∧ i < j ∧ j ≤ n ∧ Hid (Mov p l M i j) ∧ Hid (Og encH 9 61 wr 0 (.slice (some ⟨G, 0, none⟩) n cap) M) ∧ Hid (Turn G w wr)) (fun _ s6 _ => n - (intOf s6).toNat)
    case atStart => exact ⟨i, i + 1, l, rfl, by go_num, by omega, by omega, HM, hid (og_stays HO.out HK1.out), hid (turn_kept HK1.out)⟩
    case round =>
      obtain ⟨i, j, M, rfl, rfl, hij, hjn, HMr, HOr, HTr⟩ := hrel
      clear HM HK1 hne hi
      by_cases hlt : j < n
      · have hltz : (j : Int) < (n : Int) := by omega
        obtain ⟨y, hy⟩ : ∃ y, l[j]? = some y := ⟨l[j]'(by have := HLn.out; omega), List.getElem?_eq_getElem (by have := HLn.out; omega)⟩
        have hMy := (mov_get HMr.out).trans hy
        obtain ⟨c0, c1, c2, c3, c4, c5, c6, c7, c8⟩ := rg_H (rg_own encH_ok HOr.out) hMy
        simp only [Nat.zero_add] at c0 c1 c2 c3 c4 c5 c6 c7 c8
        have HY := hid hy
        have HA := hid (at_new wr #[.string y.r.key, .int .u64 y.r.s.p, .int .u32 y.r.s.l, .int .u8 y.r.s.n, .int .u8 y.r.kind, .int .u32 y.r.flags, .int .u64 y.r.exp, .string y.r.body, .int .u64 (ackI y.has 64)] 61)
        have HKa := hid (kept_alloc (kept_refl wr) (.cells #[.string y.r.key, .int .u64 y.r.s.p, .int .u32 y.r.s.l, .int .u8 y.r.s.n, .int .u8 y.r.kind, .int .u32 y.r.flags, .int .u64 y.r.exp, .string y.r.body, .int .u64 (ackI y.has 64)] 61))
        have hC := HP.out _ y (List.mem_of_getElem? hy) (HTr.out.trans (turn_kept HKa.out))
        have hz := zeroHt
        have HIN : Hid (i < n) := hid (by omega)
        obtain ⟨b0, b1, b2, b3, b4, b5, b6, b7, b8⟩ := cells9 HA.out
        clear hy hMy
        cases hb : p y with
        | false =>
          rw [hb] at hC
          have HB := hid hb
          clear hb
          go_wp2_with fail
          refine hC.mono ?_
          rintro e w3 ⟨rfl, k3⟩
          have HK3 := hid (kept_trans HKa.out k3)
          obtain ⟨d0, d1, d2, d3, d4, d5, d6, d7, d8⟩ := cells9 (at_kept HA.out k3)
          have HO3 := hid (og_stays HOr.out HK3.out)
          have hth := og_there HO3.out HIN.out
          have iz : (i : Int) < (n : Int) := by have := HIN.out; omega
          clear k3 hC hz c0 c1 c2 c3 c4 c5 c6 c7 c8 b0 b1 b2 b3 b4 b5 b6 b7 b8 HA HKa
          generalize wr.heap.size = B at *
          obtain ⟨z, hz3⟩ : ∃ z, M[i]? = some z := ⟨M[i]'(by have := HMr.out.len; have := HLn.out; omega), List.getElem?_eq_getElem (by have := HMr.out.len; have := HLn.out; omega)⟩
          obtain ⟨e0, e1, e2, e3, e4, e5, e6, e7, e8⟩ := rg_H (rg_own encH_ok HO3.out) hz3
          simp only [Nat.zero_add] at e0 e1 e2 e3 e4 e5 e6 e7 e8
          have hfr : ∀ q, w3.frozen? ⟨G, q, none⟩ = false := og_frozen HO3.out
          clear hth hz3
          go_wp2_with fail
          go_roundw
          case rel => exact ⟨i + 1, j + 1, M.set i y, by go_num, by go_num, by omega, by omega, hid (mov_keep HMr.out HY.out HB.out), hid (og_setH HO3.out HIN.out y), hid (turn_setH (HTr.out.trans (turn_kept HK3.out)) y)⟩
          case measure => simp [intOf]; omega
        | true =>
          rw [hb] at hC
          have HB := hid hb
          clear hb
          go_wp2_with fail
          refine hC.mono ?_
          rintro e w3 ⟨rfl, k3⟩
          have HK3 := hid (kept_trans HKa.out k3)
          clear k3 hC hz c0 c1 c2 c3 c4 c5 c6 c7 c8 b0 b1 b2 b3 b4 b5 b6 b7 b8 HA HKa
          go_wp2_with fail
          go_roundw
          case rel => exact ⟨i, j + 1, M, rfl, by go_num, by omega, by omega, hid (mov_skip HMr.out HY.out HB.out), hid (og_stays HOr.out HK3.out), hid (HTr.out.trans (turn_kept HK3.out))⟩
          case measure => simp [intOf]; omega
      · have hltz : ¬ (j : Int) < (n : Int) := by omega
        obtain rfl : j = n := by omega
        obtain ⟨cs, hr, ho⟩ := og_clear (cp := cap - i) encH_ok Try.underlying52 (zeroHt wr) rfl (by decide) HOr.out hij 0
        have hr2 : ∀ ty, (Builtin.clear_ #[52] ty #[.slice (some ⟨G, i * 9, none⟩) (j - i) (cap - i)]).run Try.prog wr = .ok (.tuple #[]) (wr.setRow G cs) := fun ty => hr
        have HO4 := hid ho
        have hcz : (i : Int) ≤ (j : Int) := by omega
        have hci : ¬ cap = i := by have := HC.out; omega
        have hci2 : i ≤ cap := by have := HC.out; omega
        clear hr ho
        go_wp2_with fail
        go_ret
        have hm := mov_done (p := p) (l := l) (M := M) (i := i) (by rw [HLn.out]; exact HMr.out)
        rw [hm] at HO4
        refine ⟨_, rfl, HO4.out, rfl, ?_⟩
        exact ⟨HTr.out.1, HTr.out.2.1, by rw [setRow_size]; exact HTr.out.2.2.1, fun q hq hn => (setRow_other hn).trans (HTr.out.2.2.2 q hq hn)⟩
theorem del_any {g G : Nat} {c : Value} {p : Ht → Bool} {l : List Ht} (eg : Enters g) (hl : l.length ≤ 1000) (v : Value) (w : World) (h : Og encH 9 61 w 0 v l) (hG : ∀ b, v.ownBlock = some b → b = G) (hp : PredOk g c p l G w) :
    Calls Try.prog 39 #[v, .func (.func g) #[] #[c]] w (DelC v (l.filter (fun q => !p q)) w G) := by
  by_cases hn : v = .slice none 0 0
  · subst hn
    have hl0 : l = [] := by
      obtain ⟨a, cap, e, _⟩ := og_is encH_ok h
      injection e with e1 e2
      exact List.eq_nil_of_length_eq_zero e2.symm
    subst hl0
    have hI := idx_any eg hl _ w (rg_own encH_ok h) hp
    clear h hG hp eg
    go_enter Try.func39, Try.ntmps39
    go_wp2_with fail
    refine hI.mono ?_
    rintro e w1 ⟨z, rfl, hz, k1⟩
    have HK1 := hid k1
    clear k1 hI
    rcases hz with ⟨rfl, -⟩ | ⟨i, rfl, hf⟩
    · go_wp2_with fail
      go_ret
      exact ⟨_, rfl, og_nil _ _ _ _ _, rfl, turn_kept HK1.out⟩
    · exact absurd hf.1 (by simp)
  · obtain ⟨G', cap, rfl⟩ := og_some h hn
    have := hG G' rfl
    subst this
    exact del_some eg hl w h hp
end Go.Proofs.Ytahgplfkgijecaa


namespace Go.Proofs.Ytahgplfkgijecaa
open Go.ChangeShapes Go.WideShapes Go.ChangeAt Go.RowKit
set_option linter.unusedVariables false
set_option linter.unusedSimpArgs false
set_option maxRecDepth 100000

/- The number, as a natural one. -/
theorem ack_nat (f : Nat → Bool) : ∃ N : Nat, ackI f 64 = (N : Int) ∧ N < 2 ^ 64 ∧ ∀ i, N.testBit i = (decide (i < 64) && f i) := by
  have hb := ack_bound f 64
  obtain ⟨N, hN⟩ : ∃ N : Nat, ackI f 64 = (N : Int) := ⟨(ackI f 64).toNat, by omega⟩
  have hN2 : N < 2 ^ 64 := by
    have h1 : (2 : Int) ^ 64 = 18446744073709551616 := by decide
    have h2 : (2 : Nat) ^ 64 = 18446744073709551616 := by decide
    omega
  refine ⟨N, hN, hN2, fun i => ?_⟩
  by_cases hi : i < 64
  · have h1 := ack_bit f i 64 hi
    rw [hN] at h1
    have h2 : ((2 : Int) ^ i) = ((2 ^ i : Nat) : Int) := by simp
    rw [h2, ← Int.natCast_ediv] at h1
    rw [Nat.testBit_eq_decide_div_mod_eq]
    cases hf : f i with
    | true =>
      rw [hf, if_pos rfl] at h1
      have h3 : N / 2 ^ i % 2 = 1 := by omega
      simp [h3, hi]
    | false =>
      rw [hf, if_neg (by simp)] at h1
      have h3 : N / 2 ^ i % 2 = 0 := by omega
      simp [h3]
  · rw [decide_eq_false hi, Bool.false_and]
    exact Nat.testBit_lt_two_pow (Nat.lt_of_lt_of_le hN2 (Nat.pow_le_pow_right (by decide) (by omega)))
theorem and_nat {a b : Nat} (ha : a < 2 ^ 64) (hb : b < 2 ^ 64) : bits .and .u64 (a : Int) (b : Int) = ((a &&& b : Nat) : Int) := by
  show IntKind.u64.wrap (((BitVec.ofInt 64 (a : Int) &&& BitVec.ofInt 64 (b : Int)).toNat : Nat) : Int) = _
  rw [BitVec.ofInt_natCast, BitVec.ofInt_natCast, BitVec.toNat_and, BitVec.toNat_ofNat, BitVec.toNat_ofNat, Nat.mod_eq_of_lt ha, Nat.mod_eq_of_lt hb]
  have h1 : a &&& b < 2 ^ 64 := Nat.lt_of_le_of_lt Nat.and_le_left ha
  have h2 : (2 : Nat) ^ 64 = 18446744073709551616 := by decide
  rw [h2] at h1
  exact IntWalk.u64_in _ (by omega)
theorem or_nat {a b : Nat} (ha : a < 2 ^ 64) (hb : b < 2 ^ 64) : bits .or .u64 (a : Int) (b : Int) = ((a ||| b : Nat) : Int) := by
  show IntKind.u64.wrap (((BitVec.ofInt 64 (a : Int) ||| BitVec.ofInt 64 (b : Int)).toNat : Nat) : Int) = _
  rw [BitVec.ofInt_natCast, BitVec.ofInt_natCast, BitVec.toNat_or, BitVec.toNat_ofNat, BitVec.toNat_ofNat, Nat.mod_eq_of_lt ha, Nat.mod_eq_of_lt hb]
  have h1 : a ||| b < 2 ^ 64 := Nat.or_lt_two_pow ha hb
  have h2 : (2 : Nat) ^ 64 = 18446744073709551616 := by decide
  rw [h2] at h1
  exact IntWalk.u64_in _ (by omega)
theorem pow_nat (k : Nat) : ((2 : Int) ^ k) = ((2 ^ k : Nat) : Int) := by simp
theorem and_bit (f : Nat → Bool) {k : Nat} (h : k < 64) : (bits .and .u64 (ackI f 64) (2 ^ k) != 0) = f k := by
  obtain ⟨N, e, hN, ht⟩ := ack_nat f
  rw [e, pow_nat, and_nat hN (Nat.pow_lt_pow_right (by decide) h)]
  have h1 : (N &&& 2 ^ k).testBit k = f k := by rw [Nat.testBit_and, ht, Nat.testBit_two_pow]; simp [h]
  cases hf : f k with
  | true =>
    have h2 : N &&& 2 ^ k ≠ 0 := fun e0 => by rw [e0, hf] at h1; simp at h1
    simpa using h2
  | false =>
    have h2 : N &&& 2 ^ k = 0 := by
      apply Nat.eq_of_testBit_eq
      intro i
      rw [Nat.testBit_and, ht, Nat.testBit_two_pow, Nat.zero_testBit]
      by_cases e0 : k = i
      · subst e0; simp [hf]
      · simp [e0]
    rw [h2]
    rfl
theorem or_bit (f : Nat → Bool) {k : Nat} (h : k < 64) : bits .or .u64 (ackI f 64) (2 ^ k) = ackI (more f k) 64 := by
  obtain ⟨N, e, hN, ht⟩ := ack_nat f
  obtain ⟨M, e2, hM, ht2⟩ := ack_nat (more f k)
  rw [e, e2, pow_nat, or_nat hN (Nat.pow_lt_pow_right (by decide) h)]
  congr 1
  apply Nat.eq_of_testBit_eq
  intro i
  rw [Nat.testBit_or, ht, ht2, Nat.testBit_two_pow]
  unfold more
  by_cases e0 : i = k
  · subst e0; simp [h]
  · have e1 : ¬ k = i := fun q => e0 q.symm
    simp [e0, e1]
theorem bit_any (k : Nat) (h : k < 64) (w : World) : Calls Try.prog 37 #[.int .u8 (k : Int)] w fun e w' => e = .returned (.int .u64 (2 ^ k)) ∧ w' = w := by
  have h1 : k ≤ 63 := by omega
  have h2 : ((2 : Int) ^ k) ≤ 9223372036854775808 := by
    rw [pow_nat]
    have : 2 ^ k ≤ 2 ^ 63 := Nat.pow_le_pow_right (by decide) h1
    have e : (2 : Nat) ^ 63 = 9223372036854775808 := by decide
    omega
  have h3 : (0 : Int) < 2 ^ k := Int.pow_pos (by decide)
  clear h
  go_enter Try.func37, Try.ntmps37
  go_wp2_with fail
  go_ret
  exact ⟨by simp, rfl⟩
set_option maxHeartbeats 1600000 in
theorem has_any (x : Ht) (k : Nat) (h : k < 64) (w : World) : Calls Try.prog 36 #[.agg #[.string x.r.key, .int .u64 x.r.s.p, .int .u32 x.r.s.l, .int .u8 x.r.s.n, .int .u8 x.r.kind, .int .u32 x.r.flags, .int .u64 x.r.exp, .string x.r.body, .int .u64 (ackI x.has 64)], .int .u8 (k : Int)] w fun e w' => e = .returned (.bool (x.has k)) ∧ Kept w w' := by
  have HA := hid (at_new w #[.string x.r.key, .int .u64 x.r.s.p, .int .u32 x.r.s.l, .int .u8 x.r.s.n, .int .u8 x.r.kind, .int .u32 x.r.flags, .int .u64 x.r.exp, .string x.r.body, .int .u64 (ackI x.has 64)] 61)
  have HK := hid (kept_alloc (kept_refl w) (.cells #[.string x.r.key, .int .u64 x.r.s.p, .int .u32 x.r.s.l, .int .u8 x.r.s.n, .int .u8 x.r.kind, .int .u32 x.r.flags, .int .u64 x.r.exp, .string x.r.body, .int .u64 (ackI x.has 64)] 61))
  have hB := fun u => bit_any k h u
  have hb := and_bit x.has h
  obtain ⟨b0, b1, b2, b3, b4, b5, b6, b7, b8⟩ := cells9 HA.out
  generalize x.has k = r at *
  clear h
  go_enter Try.func36, Try.ntmps36
  go_wp2_with fail
  generalize w.alloc (.cells #[.string x.r.key, .int .u64 x.r.s.p, .int .u32 x.r.s.l, .int .u8 x.r.s.n, .int .u8 x.r.kind, .int .u32 x.r.flags, .int .u64 x.r.exp, .string x.r.body, .int .u64 (ackI x.has 64)] 61) = w1 at *
  generalize w.heap.size = Z at *
  go_quiet (first | (go_at_call 37; exact Calls.quiet_of_same (hB _)))
  go_wp2_with fail
  go_ret
  exact ⟨rfl, kept_drewN HK.out _⟩
end Go.Proofs.Ytahgplfkgijecaa


namespace Go.Proofs.Ytahgplfkgijecaa
open Go.ChangeShapes Go.WideShapes Go.ChangeAt Go.RowKit
set_option linter.unusedVariables false
set_option linter.unusedSimpArgs false
set_option maxRecDepth 100000

def insA (l : List Ht) (i : Nat) (x : Ht) : List Ht := l.take i ++ x :: l.drop i
theorem insA_len (l : List Ht) (i : Nat) (x : Ht) (hi : i ≤ l.length) : (insA l i x).length = l.length + 1 := by
  unfold insA
  rw [List.length_append, List.length_cons, List.length_take, List.length_drop]
  omega
def InsC (v : Value) (l : List Ht) (w : World) (e : Ending) (w' : World) : Prop := ∃ v', e = .returned v' ∧ Og encH 9 61 w' 0 v' l ∧ (∀ b, v'.ownBlock = some b → v.ownBlock = some b ∨ w.heap.size ≤ b) ∧ Tn (fun b => v.ownBlock = some b) w w'
def OneH (w : World) (V : Nat) (x : Ht) : Prop := At w V #[.string x.r.key, .int .u64 x.r.s.p, .int .u32 x.r.s.l, .int .u8 x.r.s.n, .int .u8 x.r.kind, .int .u32 x.r.flags, .int .u64 x.r.exp, .string x.r.body, .int .u64 (ackI x.has 64)] 61
theorem oneH_row {w : World} {V : Nat} {x : Ht} (h : OneH w V x) : Rg encH 9 w (.slice (some ⟨V, 0, none⟩) 1 1) [x] := rg_alone (y := x) encH_ok h
theorem one_cell {w : World} {V : Nat} {x : Ht} (h : OneH w V x) : ∀ (j : Nat) (u : Value), (encH x)[j]? = some u → w.cell? ((⟨V, 0, none⟩ : Addr).add j) = some u := fun j u hu => by
  rw [addr_plus, Nat.zero_add, at_cell h]
  simpa [encH] using hu
/- At the end. -/
set_option maxHeartbeats 3200000 in
theorem ins_end {V : Nat} {x : Ht} {l : List Ht} (hl : l.length ≤ 1000) (v : Value) (w : World) (h : Og encH 9 61 w 0 v l) (hV : OneH w V x) :
    Calls Try.prog 34 #[v, .int .i64 (l.length : Int), .slice (some ⟨V, 0, none⟩) 1 1] w (InsC v (l ++ [x]) w) := by
  have HO := hid h
  have HR := hid (oneH_row hV)
  have HB : Hid (0 ≤ w.heap.size) := hid (Nat.zero_le _)
  obtain ⟨a, cap, rfl, h1, h2⟩ := og_is encH_ok h
  have hcase : a = none ∧ l.length = 0 ∧ cap = 0 ∨ ∃ G, a = some ⟨G, 0, none⟩ := by
    rcases h.2 with ⟨e, e0⟩ | ⟨g, cc, cur, e, _⟩
    · injection e with e1 e2 e3
      exact .inl ⟨e1, e2, e3⟩
    · injection e with e1 e2 e3
      exact .inr ⟨g, e1⟩
  have HE : Hid (∀ b, (Value.slice a l.length cap).ownBlock = some b → b < w.heap.size) := hid (fun b hb => (World.ownsRow.lt h b hb).2)
  clear h hV h2
  have key : ∀ (v' : Value) (w' : World), Og encH 9 61 w' 0 v' (l ++ [x]) → w.grownBy w' (Value.slice a l.length cap).ownBlock → (∀ g, v'.ownBlock = some g → (Value.slice a l.length cap).ownBlock = some g ∨ g = w.heap.size) → InsC (.slice a l.length cap) (l ++ [x]) w (.returned v') w' := fun v' w' g1 g2 g3 => by
    refine ⟨v', rfl, g1, fun b hb => (g3 b hb).elim .inl (fun e => .inr (by rw [e]; exact Nat.le_refl _)), ⟨g2.os, g2.output, g2.size, fun b hb hn => g2.block b hb (fun e => hn e.symm)⟩⟩
  have KEY := hid key
  clear key
  generalize hm : l.length = m at *
  have HLe : Hid (l.length + [x].length ≤ 4096) := hid (by rw [hm]; simp; omega)
  clear hm
  rcases hcase with ⟨rfl, rfl, rfl⟩ | ⟨G, rfl⟩
  · go_enter Try.func34, Try.ntmps34
    go_wp2_with (at_builtin; go_must (refine wpList_gappL rfl (.tmp 23) (.tmp 24) rfl encH_ok tyH (by decide) 0 _ ⟨V, 0, none⟩ 1 l [x] rfl HO.out rfl (by simp) HR.out HLe.out HB.out ?_; intro v3 w3 hown3 hgrow3 hland3))
    have HF := hid (KEY.out v3 w3 hown3 hgrow3 hland3)
    clear hown3 hgrow3 hland3
    go_wp2_with fail
    go_ret
    exact HF.out
  · by_cases hcm : cap = m
    · subst hcm
      go_enter Try.func34, Try.ntmps34
      go_wp2_with (at_builtin; go_must (refine wpList_gappL rfl (.tmp 23) (.tmp 24) rfl encH_ok tyH (by decide) 0 _ ⟨V, 0, none⟩ 1 l [x] rfl HO.out rfl (by simp) HR.out HLe.out HB.out ?_; intro v3 w3 hown3 hgrow3 hland3))
      have HF := hid (KEY.out v3 w3 hown3 hgrow3 hland3)
      clear hown3 hgrow3 hland3
      go_wp2_with fail
      go_ret
      exact HF.out
    · go_enter Try.func34, Try.ntmps34
      go_wp2_with (at_builtin; go_must (refine wpList_gappL rfl (.tmp 23) (.tmp 24) rfl encH_ok tyH (by decide) 0 _ ⟨V, 0, none⟩ 1 l [x] rfl HO.out rfl (by simp) HR.out HLe.out HB.out ?_; intro v3 w3 hown3 hgrow3 hland3))
      have HF := hid (KEY.out v3 w3 hown3 hgrow3 hland3)
      clear hown3 hgrow3 hland3
      go_wp2_with fail
      go_ret
      exact HF.out
end Go.Proofs.Ytahgplfkgijecaa


namespace Go.Proofs.Ytahgplfkgijecaa
open Go.ChangeShapes Go.WideShapes Go.ChangeAt Go.RowKit
set_option linter.unusedVariables false
set_option linter.unusedSimpArgs false
set_option maxRecDepth 100000

theorem size_H (w : World) : (Go.sizeOf 61).run Try.prog w = .ok 9 w := by kernel_rfl
set_option maxHeartbeats 3200000 in
theorem ins_room {V G n cap i : Nat} {x : Ht} {l : List Ht} (hl : l.length ≤ 1000) (hi : i < n) (hr : n + 1 ≤ cap) (w : World) (h : Og encH 9 61 w 0 (.slice (some ⟨G, 0, none⟩) n cap) l) (hV : OneH w V x) (hne : V ≠ G) :
    Calls Try.prog 34 #[.slice (some ⟨G, 0, none⟩) n cap, .int .i64 (i : Int), .slice (some ⟨V, 0, none⟩) 1 1] w (InsC (.slice (some ⟨G, 0, none⟩) n cap) (insA l i x) w) := by
  obtain ⟨cur, hG, -, hln, hnc, hm, hs, ht⟩ := og_whole h
  obtain ⟨i0, hi0, hz0, hz1, hz2⟩ := info_parts infoH
  obtain ⟨j, hj⟩ : ∃ j, i + 1 = j := ⟨_, rfl⟩
  obtain ⟨n1, hn1⟩ : ∃ k, n + 1 = k := ⟨_, rfl⟩
  have hov : ∀ lb cb, (callFunc 57 #[.slice (some ⟨V, 0, none⟩) 1 1, .slice (some ⟨G, j * 9, none⟩) lb cb]).run Try.prog w = .ok (.value (.bool false)) w := fun lb cb => by
    have hsz : ∀ u : World, (Go.sizeOf 61).run Try.prog u = .ok 9 u := size_H
    rw [run_callFunc_extern Try.func57 (by kernel_rfl) (by kernel_rfl) (by kernel_rfl) (e := Extern.SlicesOverlaps.overlaps #[52, 52] #[4]) (by kernel_rfl),
      Lib.run_overlaps_apart w 52 4 61 Try.underlying52 9 hsz ⟨V, 0, none⟩ ⟨G, j * 9, none⟩ 1 1 lb cb hne 61 61 9 cur.size (by
        have hV' : w.heap[V]? = _ := hV
        unfold World.shape?
        rw [hV']; rfl) (by
        have hG' : w.heap[G]? = _ := hG
        unfold World.shape?
        rw [hG']) (by omega) (at_frozen hV 0) (at_frozen hV 9)]
    rfl
  have hfl : (flatE encH (l.drop i)).length = (n - i) * 9 := by rw [flatE_len encH_ok, List.length_drop, hln]
  have hlen : cur.toList.length = cap * 9 := Array.length_toList.trans hs
  have hsrc : ∀ (q : Nat) (u : Value), (flatE encH (l.drop i))[q]? = some u → w.drew.cell? ((⟨G, i * 9, none⟩ : Addr).add q) = some u := fun q u hu => by
    rw [addr_plus]
    have hq := (List.getElem?_eq_some_iff.1 hu).1
    show w.cell? ⟨G, i * 9 + q, none⟩ = some u
    rw [at_cell hG, ← hu, ← flatE_drop encH_ok, List.getElem?_drop, ← ht, List.getElem?_take, if_pos (by omega), Array.getElem?_toList]
  have hcp1 : ∀ ty dc sc, (Builtin.copy_ #[52, 52] ty #[.slice (some ⟨G, j * 9, none⟩) (n1 - j) dc, .slice (some ⟨G, i * 9, none⟩) (n1 - i) sc]).run Try.prog w.drew = .ok (.int .i64 ((n - i : Nat) : Int)) (w.drew.setRow G (over cur (j * 9) (flatE encH (l.drop i)))) := fun ty dc sc =>
    copy_raw Try.underlying52 hi0 hz1 (at_drew hG) hfl (by show min (n1 - i) (n1 - j) = n - i; omega) hsrc (by omega) (flatE_ones encH_ok _) ty
  obtain ⟨W1, hW1⟩ : ∃ W1, w.drew.setRow G (over cur (j * 9) (flatE encH (l.drop i))) = W1 := ⟨_, rfl⟩
  have hG1 : At W1 G (over cur (j * 9) (flatE encH (l.drop i))) 61 := by rw [← hW1]; exact at_setRow (at_drew hG)
  have hV1 : OneH W1 V x := by
    unfold OneH At
    rw [← hW1, setRow_other hne]
    exact hV
  have hs1 : (over cur (j * 9) (flatE encH (l.drop i))).size = cap * 9 := by rw [over_size (by omega), hs]
  have hcp2 : ∀ ty dc sc, (Builtin.copy_ #[52, 52] ty #[.slice (some ⟨G, i * 9, none⟩) (n1 - i) dc, .slice (some ⟨V, 0, none⟩) 1 sc]).run Try.prog W1 = .ok (.int .i64 1) (W1.setRow G (over (over cur (j * 9) (flatE encH (l.drop i))) (i * 9) (encH x))) := fun ty dc sc =>
    copy_raw (k := 1) Try.underlying52 hi0 hz1 hG1 (encH_ok.len x) (by show min 1 (n1 - i) = 1; omega) (one_cell hV1) (by rw [encH_ok.len]; omega) (encH_ok.one _) ty
  have hend : InsC (.slice (some ⟨G, 0, none⟩) n cap) (insA l i x) w (.returned (.slice (some ⟨G, 0, none⟩) n1 cap)) (W1.setRow G (over (over cur (j * 9) (flatE encH (l.drop i))) (i * 9) (encH x))) := by
    obtain ⟨o1, o2⟩ := over_in (q := x) (l := l) (i := i) encH_ok hs (by omega) (by omega) (by rw [hln]; exact ht)
    rw [hj] at o1 o2
    have hO := og_of (w := W1.setRow G (over (over cur (j * 9) (flatE encH (l.drop i))) (i * 9) (encH x))) (B := 0) (xs := insA l i x) encH_ok (at_setRow hG1) (Nat.zero_le _) (by rw [insA_len _ _ _ (by omega)]; omega) hm o1 (by rw [insA_len _ _ _ (by omega)]; exact o2)
    rw [insA_len _ _ _ (by omega), hln, hn1] at hO
    refine ⟨_, rfl, hO, fun b hb => .inl hb, ?_⟩
    refine ⟨by rw [← hW1]; rfl, by rw [← hW1]; rfl, by rw [setRow_size, ← hW1, setRow_size]; exact Nat.le_refl _, fun b hb hn => ?_⟩
    have hbG : b ≠ G := fun e => hn (by rw [e]; rfl)
    rw [setRow_other hbG, ← hW1, setRow_other hbG]
    rfl
  rw [hW1] at hcp1
  have HEND := hid hend
  have n0 : ((i : Int) == (n : Int)) = false := by rw [beq_eq_false_iff_ne]; omega
  have m1 : (n : Int) + 1 = (n1 : Int) := by omega
  have m2 : (i : Int) + 1 = (j : Int) := by omega
  have m3 : ¬ (cap : Int) < (n1 : Int) := by omega
  have m4 : n1 ≤ cap := by omega
  have m5 : (i : Int) ≤ (n : Int) := by omega
  have m6 : (j : Int) ≤ (n1 : Int) := by omega
  have m7 : (n : Int) ≤ 1000 := by omega
  have m8 : ¬ cap = i := by omega
  have m9 : ¬ cap = j := by omega
  have m10 : (i : Int) ≤ (n1 : Int) := by omega
  clear hend hi0 hz0 hz1 hz2 hsrc hfl hlen hV1 hG1 hs1 hV hs ht hG h hm hnc hln hl hW1 hi hr hj hn1
  go_enter Try.func34, Try.ntmps34
  go_wp2_with (simp only [hov])
  go_region
  all_goals go_wp2_with fail
  go_ret
  exact HEND.out
theorem wpList_app_run {P : Program} {t tx : TypeId} {w w' : World} {ops : Array Oper} {rest : List Oper} {o : Oper} {act : Act} {Q : Exit → Act → World → Prop} (hgd : o.guard = none) (s x : Operand) (ho : o.op = .call { callee := .builtin .append, args := #[s, x], argTypes := #[t, tx] }) (v y v' : Value)
    (hs : act.eval s = v) (hx : act.eval x = y) (hr : (Builtin.append_ #[t, tx] o.type #[v, y]).run P w = .ok v' w') (h : wpList P ops Q rest (act.put o.dst v') w') : wpList P ops Q (o :: rest) act w :=
  wpList_plain hgd fun _ hK => op_run s x tx ho v y v' hs hx hr (hK _ _ h)
set_option maxHeartbeats 3200000 in
theorem ins_grow {V G n cap i : Nat} {x : Ht} {l : List Ht} (hl : l.length ≤ 1000) (hi : i < n) (hr : cap < n + 1) (w : World) (h : Og encH 9 61 w 0 (.slice (some ⟨G, 0, none⟩) n cap) l) (hV : OneH w V x) :
    Calls Try.prog 34 #[.slice (some ⟨G, 0, none⟩) n cap, .int .i64 (i : Int), .slice (some ⟨V, 0, none⟩) 1 1] w (InsC (.slice (some ⟨G, 0, none⟩) n cap) (insA l i x) w) := by
  obtain ⟨cur, hG, -, hln, hnc, hm, hs, ht⟩ := og_whole h
  obtain ⟨i0, hi0, hz0, hz1, hz2⟩ := info_parts infoH
  obtain ⟨j, hj⟩ : ∃ j, i + 1 = j := ⟨_, rfl⟩
  obtain ⟨n1, hn1⟩ : ∃ k, n + 1 = k := ⟨_, rfl⟩
  obtain ⟨d, hd⟩ : ∃ k, n1 - i = k := ⟨_, rfl⟩
  have hol : (flatE encH (l.take i)).length = i * i0.size := by rw [flatE_len encH_ok, List.length_take, Nat.min_eq_left (by omega), hz1]
  have hocell : ∀ (q : Nat) (u : Value), (flatE encH (l.take i))[q]? = some u → w.drew.cell? ((⟨G, 0, none⟩ : Addr).add q) = some u := fun q u hu => by
    rw [addr_plus, Nat.zero_add]
    have hq := (List.getElem?_eq_some_iff.1 hu).1
    rw [hol, hz1] at hq
    show w.cell? ⟨G, q, none⟩ = some u
    rw [at_cell hG, ← hu, ← flatE_take encH_ok, List.getElem?_take, if_pos (by omega), ← ht, List.getElem?_take, if_pos (by omega), Array.getElem?_toList]
  have hold : (Builtin.firstCells i0.size i (.slice (some ⟨G, 0, none⟩) i cap)).run Try.prog w.drew = .ok (flatE encH (l.take i)).toArray w.drew := run_firstCells_some w.drew i0.size i ⟨G, 0, none⟩ i cap _ hol hocell
  have hdi : i + d = n1 := by omega
  have hrz := fun ty => Lib.run_append_grow_zeros (P := Try.prog) w 52 3 ty 61 i0 _ .i64 .i64 Try.underlying52 Try.underlying3 hi0 hz0 (some ⟨G, 0, none⟩) i cap (flatE encH (l.take i)) hold d (by omega) (by omega) (by omega) (by omega) (by rw [hz2]; omega) (by rw [hz2]; exact growslice_fits (by omega) (by omega))
  simp only [hdi] at hrz
  have hge := grownCap_ge w n1 cap 61
  have hgm := grownCap_le_maxLen w n1 cap 61 (by unfold maxLen; omega)
  obtain ⟨gc, hgc⟩ : ∃ gc, grownCap w n1 cap 61 = gc := ⟨_, rfl⟩
  rw [hgc] at hge hgm
  simp only [hgc] at hrz
  have hzc : (Value.agg (encH zeroH).toArray).cells.size = 9 := rfl
  obtain ⟨row, hrow, hrs, hrt⟩ : ∃ row : Array Value, (flatE encH (l.take i)).toArray ++ Builtin.zeroCells (Value.agg (encH zeroH).toArray).cells d ++ Builtin.zeroCells (Value.agg (encH zeroH).toArray).cells (gc - n1) = row ∧ row.size = gc * 9 ∧ row.toList.take (i * 9) = flatE encH (l.take i) := ⟨_, rfl, by
    rw [hz1] at hol
    simp only [Builtin.zeroCells, hzc, Array.size_append, List.size_toArray, hol, Array.size_map, Array.size_range]
    omega, by
    rw [hz1] at hol
    simp only [Array.toList_append, List.append_assoc]
    exact List.take_left' hol⟩
  simp only [hrow] at hrz
  obtain ⟨N, hN⟩ : ∃ N, w.heap.size = N := ⟨_, rfl⟩
  have hAN := at_new w.drew row 61
  have hKN := kept_alloc (kept_drew (kept_refl w)) (.cells row 61)
  obtain ⟨W1, hW1⟩ : ∃ W1, w.drew.alloc (.cells row 61) = W1 := ⟨_, rfl⟩
  have hsd : w.drew.heap.size = N := hN
  rw [hsd, hW1] at hAN
  rw [hW1] at hKN
  simp only [hW1, hN] at hrz
  have hap : ∀ ty, (Builtin.append_ #[52, 3] ty #[.slice (some ⟨G, 0, none⟩) i cap, .int .i64 (d : Int)]).run Try.prog w = .ok (.slice (some ⟨N, 0, none⟩) n1 gc) W1 := hrz
  have hGlt : G < N := by have := at_lt hG; omega
  have hVlt : V < N := by have := at_lt hV; omega
  have hcp1 : ∀ ty dc sc, (Builtin.copy_ #[52, 52] ty #[.slice (some ⟨N, i * 9, none⟩) (n1 - i) dc, .slice (some ⟨V, 0, none⟩) 1 sc]).run Try.prog W1 = .ok (.int .i64 1) (W1.setRow N (over row (i * 9) (encH x))) := fun ty dc sc =>
    copy_raw (k := 1) Try.underlying52 hi0 hz1 hAN (encH_ok.len x) (by show min 1 (n1 - i) = 1; omega) (one_cell (at_kept hV hKN)) (by rw [encH_ok.len]; omega) (encH_ok.one _) ty
  obtain ⟨W2, hW2⟩ : ∃ W2, W1.setRow N (over row (i * 9) (encH x)) = W2 := ⟨_, rfl⟩
  have hA2 : At W2 N (over row (i * 9) (encH x)) 61 := by rw [← hW2]; exact at_setRow hAN
  have hG2 : At W2 G cur 61 := by
    unfold At
    rw [← hW2, setRow_other (by omega)]
    exact at_kept hG hKN
  have hfl : (flatE encH (l.drop i)).length = (n - i) * 9 := by rw [flatE_len encH_ok, List.length_drop, hln]
  have hs2 : (over row (i * 9) (encH x)).size = gc * 9 := by rw [over_size (by rw [encH_ok.len]; omega), hrs]
  have hcp2 : ∀ ty dc sc, (Builtin.copy_ #[52, 52] ty #[.slice (some ⟨N, j * 9, none⟩) (n1 - j) dc, .slice (some ⟨G, i * 9, none⟩) (n - i) sc]).run Try.prog W2.drew = .ok (.int .i64 ((n - i : Nat) : Int)) (W2.drew.setRow N (over (over row (i * 9) (encH x)) (j * 9) (flatE encH (l.drop i)))) := fun ty dc sc =>
    copy_raw (k := n - i) Try.underlying52 hi0 hz1 (at_drew hA2) hfl (by show min (n - i) (n1 - j) = n - i; omega) (fun q u hu => by
      rw [addr_plus]
      have hq := (List.getElem?_eq_some_iff.1 hu).1
      show W2.cell? ⟨G, i * 9 + q, none⟩ = some u
      rw [at_cell hG2, ← hu, ← flatE_drop encH_ok, List.getElem?_drop, ← ht, List.getElem?_take, if_pos (by omega), Array.getElem?_toList]) (by omega) (flatE_ones encH_ok _) ty
  have hend : InsC (.slice (some ⟨G, 0, none⟩) n cap) (insA l i x) w (.returned (.slice (some ⟨N, 0, none⟩) n1 gc)) (W2.drew.setRow N (over (over row (i * 9) (encH x)) (j * 9) (flatE encH (l.drop i)))) := by
    obtain ⟨o1, o2⟩ := over_grow (q := x) (l := l) (i := i) encH_ok hrs (by omega) (by omega) hrt
    rw [hj] at o1 o2
    have hO := og_of (w := W2.drew.setRow N (over (over row (i * 9) (encH x)) (j * 9) (flatE encH (l.drop i)))) (B := 0) (xs := insA l i x) encH_ok (at_setRow (at_drew hA2)) (Nat.zero_le _) (by rw [insA_len _ _ _ (by omega)]; omega) hgm o1 (by rw [insA_len _ _ _ (by omega)]; exact o2)
    rw [insA_len _ _ _ (by omega), hln, hn1] at hO
    have hk3 : Kept w (W2.drew.setRow N (over (over row (i * 9) (encH x)) (j * 9) (flatE encH (l.drop i)))) := kept_setRow (kept_drew (by rw [← hW2]; exact kept_setRow hKN (by omega) _)) (by omega) _
    refine ⟨_, rfl, hO, fun b hb => .inr ?_, ⟨kept_os hk3, kept_output hk3, hk3.2, fun b hb _ => kept_block hk3 hb⟩⟩
    have hbN : N = b := by simpa [Value.ownBlock] using hb
    omega
  rw [hW2] at hcp1
  have HEND := hid hend
  have HAP := hid hap
  have n0 : ((i : Int) == (n : Int)) = false := by rw [beq_eq_false_iff_ne]; omega
  have m1 : (n : Int) + 1 = (n1 : Int) := by omega
  have m2 : (i : Int) + 1 = (j : Int) := by omega
  have m3 : (cap : Int) < (n1 : Int) := by omega
  have m4 : (n1 : Int) - (i : Int) = (d : Int) := by omega
  have m5 : (i : Int) ≤ (n : Int) := by omega
  have m6 : (j : Int) ≤ (n1 : Int) := by omega
  have m7 : (n : Int) ≤ 1000 := by omega
  have m8 : ¬ cap = i := by omega
  have m9 : ¬ gc = j := by omega
  have m10 : (i : Int) ≤ (n1 : Int) := by omega
  have m11 : ¬ gc = i := by omega
  have m12 : n1 ≤ gc := hge
  have m13 : i ≤ cap := by omega
  have m14 : d ≤ 1001 := by omega
  have m15 : n ≤ cap := hnc
  clear hend hi0 hz0 hz1 hz2 hfl hA2 hG2 hs2 hV hs ht hG h hm hnc hln hl hold hrz hge hgm hgc hrow hrs hrt hN hAN hKN hW1 hsd hW2 hGlt hVlt hr hap hol hocell hzc hdi hi hj hn1 hd
  go_enter Try.func34, Try.ntmps34
  go_wp2_with (at_builtin; refine wpList_app_run rfl (.tmp 34) (.tmp 39) rfl _ _ _ rfl rfl (HAP.out _) ?_)
  go_region
  all_goals go_wp2_with fail
  go_ret
  exact HEND.out
theorem insert_any {V i : Nat} {x : Ht} {l : List Ht} (hl : l.length ≤ 1000) (hi : i ≤ l.length) (v : Value) (w : World) (h : Og encH 9 61 w 0 v l) (hV : OneH w V x) (hne : v.ownBlock ≠ some V) :
    Calls Try.prog 34 #[v, .int .i64 (i : Int), .slice (some ⟨V, 0, none⟩) 1 1] w (InsC v (insA l i x) w) := by
  by_cases he : i = l.length
  · subst he
    have e : insA l l.length x = l ++ [x] := by unfold insA; rw [List.take_length, List.drop_length]
    rw [e]
    exact ins_end hl v w h hV
  · have hp : v ≠ .slice none 0 0 := by
      rintro rfl
      obtain ⟨a, cap, e, _⟩ := og_is encH_ok h
      injection e with e1 e2
      omega
    obtain ⟨G, cap, rfl⟩ := og_some h hp
    by_cases hr : l.length + 1 ≤ cap
    · exact ins_room hl (by omega) hr w h hV (fun e => hne (by rw [e]; rfl))
    · exact ins_grow hl (by omega) (by omega) w h hV
end Go.Proofs.Ytahgplfkgijecaa


namespace Go.Proofs.Ytahgplfkgijecaa
open Go.ChangeShapes Go.WideShapes Go.ChangeAt Go.RowKit
set_option linter.unusedVariables false
set_option linter.unusedSimpArgs false
set_option maxRecDepth 100000

/- Where a key is, or would be. -/
structure Cut (l : List Ht) (key : ByteArray) (i : Nat) : Prop where
  le : i ≤ l.length
  low : ∀ (k : Nat) (x : Ht), k < i → l[k]? = some x → cmpB x.r.key key < 0
  high : ∀ (k : Nat) (x : Ht), i ≤ k → l[k]? = some x → ¬ cmpB x.r.key key < 0
def hit (l : List Ht) (key : ByteArray) (i : Nat) : Bool := match l[i]? with
  | none => false
  | some x => cmpB x.r.key key == 0
theorem hit_some {l : List Ht} {key : ByteArray} {i : Nat} (h : hit l key i = true) : ∃ x, l[i]? = some x ∧ x.r.key = key := by
  unfold hit at h
  cases hx : l[i]? with
  | none => rw [hx] at h; cases h
  | some x =>
    rw [hx] at h
    exact ⟨x, rfl, (cmpB_zero _ _).1 (by simpa using h)⟩
theorem cut_fnd {l : List Ht} {key : ByteArray} {i : Nat} (hc : Cut l key i) (h : hit l key i = true) : fnd key l = some i := by
  obtain ⟨x, hx, hk⟩ := hit_some h
  refine fnd_of hx hk (fun j y hj hy e => ?_)
  have := hc.low j y hj hy
  rw [(cmpB_zero _ _).2 e] at this
  omega
theorem cut_none {l : List Ht} {key : ByteArray} {i : Nat} (hr : Rise l) (hc : Cut l key i) (h : hit l key i = false) : fnd key l = none := by
  cases hf : fnd key l with
  | none => rfl
  | some j =>
    exfalso
    obtain ⟨x, hx, hk, _⟩ := fnd_some hf
    have hij : i ≤ j := by
      rcases Nat.lt_or_ge j i with q | q
      · have := hc.low j x q hx
        rw [(cmpB_zero _ _).2 hk] at this
        omega
      · exact q
    rcases Nat.eq_or_lt_of_le hij with e | e
    · subst e
      unfold hit at h
      rw [hx] at h
      have : cmpB x.r.key key = 0 := (cmpB_zero _ _).2 hk
      simp [this] at h
    · have hj := (List.getElem?_eq_some_iff.1 hx).1
      obtain ⟨y, hy⟩ : ∃ y, l[i]? = some y := ⟨l[i], List.getElem?_eq_getElem (by omega)⟩
      have h1 := rise_once (k := key) hr i j y x hy hx e
      rw [hk] at h1
      exact hc.high i y (Nat.le_refl _) hy h1
theorem cut_ins {r : R} : ∀ {l : List Ht} {i : Nat}, Cut l r.key i → hit l r.key i = false → insH r l = l.take i ++ ⟨r, nob⟩ :: l.drop i
  | [], i, _, _ => by simp [insH]
  | x :: t, 0, hc, hh => by
    have h1 := hc.high 0 x (Nat.le_refl _) rfl
    have h2 : cmpB x.r.key r.key ≠ 0 := fun e => by
      unfold hit at hh
      simp [e] at hh
    have h3 := cmpB_flip x.r.key r.key
    unfold insH
    rw [if_pos (by omega)]
    rfl
  | x :: t, i + 1, hc, hh => by
    have h1 := hc.low 0 x (by omega) rfl
    have h3 := cmpB_flip x.r.key r.key
    unfold insH
    rw [if_neg (by omega), List.take_succ_cons, List.drop_succ_cons, List.cons_append]
    congr 1
    refine cut_ins ⟨by have := hc.le; simpa using this, fun k y hk hy => hc.low (k + 1) y (by omega) (by simpa using hy), fun k y hk hy => hc.high (k + 1) y (by omega) (by simpa using hy)⟩ ?_
    simpa [hit] using hh
theorem hit_at {l : List Ht} {key : ByteArray} {i : Nat} {x : Ht} (hx : l[i]? = some x) : hit l key i = (cmpB x.r.key key == 0) := by
  unfold hit
  rw [hx]
theorem hit_end {l : List Ht} {key : ByteArray} {i : Nat} (h : l.length ≤ i) : hit l key i = false := by
  unfold hit
  rw [List.getElem?_eq_none h]
theorem clo_any (x : Ht) (key : ByteArray) (w : World) : Calls Try.prog 50 #[.agg #[.string x.r.key, .int .u64 x.r.s.p, .int .u32 x.r.s.l, .int .u8 x.r.s.n, .int .u8 x.r.kind, .int .u32 x.r.flags, .int .u64 x.r.exp, .string x.r.body, .int .u64 (ackI x.has 64)], .string key] w fun e w' => e = .returned (.int .i64 (cmpB x.r.key key)) ∧ Kept w w' := by
  have HK := hid (kept_alloc (kept_refl w) (.cells #[.string x.r.key, .int .u64 x.r.s.p, .int .u32 x.r.s.l, .int .u8 x.r.s.n, .int .u8 x.r.kind, .int .u32 x.r.flags, .int .u64 x.r.exp, .string x.r.body, .int .u64 (ackI x.has 64)] 61))
  go_enter Try.func50, Try.ntmps50
  go_wp2_with fail
  refine (cmpText x.r.key key _).mono ?_
  rintro e w1 ⟨rfl, e2⟩
  subst e2
  go_wp2_with fail
  go_ret
  exact ⟨rfl, HK.out⟩
theorem entersP : Enters 50 := enters_of Try.func50 (by kernel_rfl) rfl
def BinC (l : List Ht) (key : ByteArray) (w : World) (e : Ending) (w' : World) : Prop := ∃ i : Nat, Cut l key i ∧ e = .returned (.tuple #[.int .i64 (i : Int), .bool (hit l key i)]) ∧ Kept w w'
theorem bin_says {b c : Bool} (h : b = c) (i : Int) : Ending.returned (.tuple #[.int .i64 i, .bool b]) = Ending.returned (.tuple #[.int .i64 i, .bool c]) := by rw [h]
set_option maxHeartbeats 6400000 in
theorem bin_any (l : List Ht) (hl : l.length ≤ 1000) (hr : Rise l) (key : ByteArray) (v : Value) (w : World) (h : Rg encH 9 w v l) : Calls Try.prog 49 #[v, .string key, .func (.func 50) #[] #[]] w (BinC l key w) := by
  have HR := hid h
  have HRi := hid hr
  obtain ⟨a, cap, rfl, -, -, -, -⟩ := h
  have HG : Hid (∀ k : Nat, k < l.length → ∃ y, l[k]? = some y) := hid (fun k hk => ⟨l[k], List.getElem?_eq_getElem hk⟩)
  have HQ : Hid (0 < l.length → ∃ g o, a = some ⟨g, o, none⟩) := hid (fun hp => by
    obtain ⟨g, o, c, e⟩ := rg_pos HR.out hp
    injection e with e1
    exact ⟨g, o, e1⟩)
  have HL : Hid (∀ (j : Nat) (q : Ht), l[j]? = some q → j < l.length) := hid (fun j q hj => (List.getElem?_eq_some_iff.1 hj).1)
  have HLe : Hid (l.length ≤ l.length) := hid (Nat.le_refl _)
  have eg : ∀ (args : Array Value) (w : World), (callFunc 50 args).run Try.prog w = .ok (.enter 50 args) w := entersP
  have HC := hid (fun (x : Ht) (u : World) => clo_any x key u)
  obtain ⟨n, hnn⟩ : ∃ n, l.length = n := ⟨_, rfl⟩
  have HN := hid hnn
  rw [hnn] at hl HG HQ HL
  simp only [hnn]
  clear hr hnn HLe
  go_enter Try.func49, Try.ntmps49
  go_wp2_with fail
  go_loopw [9, 10] (fun iv jv wr => ∃ i j : Nat, i ≤ j ∧ j ≤ n ∧ iv = .int .i64 (i : Int) ∧ jv = .int .i64 (j : Int) ∧ Hid (∀ (k : Nat) (x : Ht), k < i → l[k]? = some x → cmpB x.r.key key < 0) ∧ Hid (∀ (k : Nat) (x : Ht), j ≤ k → l[k]? = some x → 0 ≤ cmpB x.r.key key) ∧ Hid (Kept w wr)) (fun iv jv _ => (intOf jv).toNat - (intOf iv).toNat)
  case atStart => exact ⟨0, n, Nat.zero_le _, Nat.le_refl _, rfl, rfl, hid (fun k x hk => by omega), hid (fun k x hk hx => by have := HL.out k x hx; omega), hid (kept_refl w)⟩
  case round =>
    obtain ⟨i, j, hij, hjn, rfl, rfl, HLo, HHi, HK⟩ := hrel
    by_cases hlt : i < j
    · have hltz : (i : Int) < (j : Int) := by omega
      obtain ⟨t, ht⟩ : ∃ t, (i + j) / 2 = t := ⟨_, rfl⟩
      have htz : ((i : Int) + (j : Int)) / 2 = (t : Int) := by omega
      have ht1 : i ≤ t := by omega
      have ht2 : t < j := by omega
      have ht3 : (t : Int) < (n : Int) := by omega
      obtain ⟨y, hy⟩ := HG.out t (by omega)
      obtain ⟨g1, o, rfl⟩ := HQ.out (by omega)
      obtain ⟨c0, c1, c2, c3, c4, c5, c6, c7, c8⟩ := rg_H (rg_kept encH_ok HR.out HK.out) hy
      have hC := HC.out y wr
      have HY := hid hy
      clear hy ht
      go_wp2_with fail
      refine hC.mono ?_
      rintro e w1 ⟨rfl, k1⟩
      have HK1 := hid (kept_trans HK.out k1)
      clear k1 hC c0 c1 c2 c3 c4 c5 c6 c7 c8
      by_cases hq : cmpB y.r.key key < 0
      · have hqd : decide (cmpB y.r.key key < 0) = true := by simpa using hq
        have HLo2 : Hid (∀ (k : Nat) (x : Ht), k < t + 1 → l[k]? = some x → cmpB x.r.key key < 0) := hid (fun k x hk hx => by
          by_cases e : k = t
          · subst e
            rw [HY.out] at hx
            injection hx with hx
            rw [← hx]; exact hq
          · have h1 := rise_once (k := key) HRi.out k t x y hx HY.out (by omega)
            exact cmpB_lt_trans h1 hq)
        clear hq
        go_wp2_with fail
        go_roundw
        case rel => exact ⟨t + 1, j, by omega, hjn, by go_num, rfl, HLo2, HHi, HK1⟩
        case measure => simp [intOf]; omega
      · have hqd : decide (cmpB y.r.key key < 0) = false := by simpa using hq
        have HHi2 : Hid (∀ (k : Nat) (x : Ht), t ≤ k → l[k]? = some x → 0 ≤ cmpB x.r.key key) := hid (fun k x hk hx => by
          by_cases e : k = t
          · subst e
            rw [HY.out] at hx
            injection hx with hx
            rw [← hx]; omega
          · have h1 := rise_once (k := key) HRi.out t k y x HY.out hx (by omega)
            rcases Int.lt_or_le (cmpB x.r.key key) 0 with q | q
            · exact absurd (cmpB_lt_trans h1 q) hq
            · exact q)
        clear hq
        go_wp2_with fail
        go_roundw
        case rel => exact ⟨i, t, ht1, by omega, rfl, by go_num, HLo, HHi2, HK1⟩
        case measure => simp [intOf]; omega
    · have hltz : ¬ (i : Int) < (j : Int) := by omega
      have e : i = j := by omega
      subst e
      have HCu : Hid (Cut l key i) := hid ⟨by rw [HN.out]; exact hjn, HLo.out, fun k x hk hx => by have := HHi.out k x hk hx; omega⟩
      by_cases hin : i < n
      · have hinz : (i : Int) < (n : Int) := by omega
        obtain ⟨y, hy⟩ := HG.out i hin
        obtain ⟨g1, o, rfl⟩ := HQ.out (by omega)
        obtain ⟨c0, c1, c2, c3, c4, c5, c6, c7, c8⟩ := rg_H (rg_kept encH_ok HR.out HK.out) hy
        have hC := HC.out y wr
        have HH := hid (hit_at (key := key) hy)
        clear hy
        go_wp2_with fail
        refine hC.mono ?_
        rintro e w1 ⟨rfl, k1⟩
        have HK1 := hid (kept_trans HK.out k1)
        clear k1 hC c0 c1 c2 c3 c4 c5 c6 c7 c8
        go_wp2_with fail
        go_ret2
        exact ⟨i, HCu.out, bin_says HH.out.symm _, HK1.out⟩
      · have hinz : ¬ (i : Int) < (n : Int) := by omega
        have HH : Hid (hit l key i = false) := hid (hit_end (by rw [HN.out]; omega))
        go_wp2_with fail
        go_ret2
        exact ⟨i, HCu.out, bin_says HH.out.symm _, HK.out⟩
end Go.Proofs.Ytahgplfkgijecaa


namespace Go.Proofs.Ytahgplfkgijecaa
open Go.ChangeShapes Go.WideShapes Go.ChangeAt Go.RowKit
set_option linter.unusedVariables false
set_option linter.unusedSimpArgs false
set_option maxRecDepth 100000

def set8 (w : World) (G : Nat) (a0 a1 a2 a3 a4 a5 a6 a7 : Value) : World := (((((((w.setCell ⟨G, 0, none⟩ a0).setCell ⟨G, 1, none⟩ a1).setCell ⟨G, 2, none⟩ a2).setCell ⟨G, 3, none⟩ a3).setCell ⟨G, 4, none⟩ a4).setCell ⟨G, 5, none⟩ a5).setCell ⟨G, 6, none⟩ a6).setCell ⟨G, 7, none⟩ a7
theorem at_set8 {w : World} {G T : Nat} {v0 v1 v2 v3 v4 v5 v6 v7 : Value} (h : At w G #[v0, v1, v2, v3, v4, v5, v6, v7] T) (a0 a1 a2 a3 a4 a5 a6 a7 : Value) : At (set8 w G a0 a1 a2 a3 a4 a5 a6 a7) G #[a0, a1, a2, a3, a4, a5, a6, a7] T := by
  have h0 : At (w.setCell ⟨G, 0, none⟩ a0) G #[a0, v1, v2, v3, v4, v5, v6, v7] T := at_set h 0 a0
  have h1 : At ((w.setCell ⟨G, 0, none⟩ a0).setCell ⟨G, 1, none⟩ a1) G #[a0, a1, v2, v3, v4, v5, v6, v7] T := at_set h0 1 a1
  have h2 : At (((w.setCell ⟨G, 0, none⟩ a0).setCell ⟨G, 1, none⟩ a1).setCell ⟨G, 2, none⟩ a2) G #[a0, a1, a2, v3, v4, v5, v6, v7] T := at_set h1 2 a2
  have h3 : At ((((w.setCell ⟨G, 0, none⟩ a0).setCell ⟨G, 1, none⟩ a1).setCell ⟨G, 2, none⟩ a2).setCell ⟨G, 3, none⟩ a3) G #[a0, a1, a2, a3, v4, v5, v6, v7] T := at_set h2 3 a3
  have h4 : At (((((w.setCell ⟨G, 0, none⟩ a0).setCell ⟨G, 1, none⟩ a1).setCell ⟨G, 2, none⟩ a2).setCell ⟨G, 3, none⟩ a3).setCell ⟨G, 4, none⟩ a4) G #[a0, a1, a2, a3, a4, v5, v6, v7] T := at_set h3 4 a4
  have h5 : At ((((((w.setCell ⟨G, 0, none⟩ a0).setCell ⟨G, 1, none⟩ a1).setCell ⟨G, 2, none⟩ a2).setCell ⟨G, 3, none⟩ a3).setCell ⟨G, 4, none⟩ a4).setCell ⟨G, 5, none⟩ a5) G #[a0, a1, a2, a3, a4, a5, v6, v7] T := at_set h4 5 a5
  have h6 : At (((((((w.setCell ⟨G, 0, none⟩ a0).setCell ⟨G, 1, none⟩ a1).setCell ⟨G, 2, none⟩ a2).setCell ⟨G, 3, none⟩ a3).setCell ⟨G, 4, none⟩ a4).setCell ⟨G, 5, none⟩ a5).setCell ⟨G, 6, none⟩ a6) G #[a0, a1, a2, a3, a4, a5, a6, v7] T := at_set h5 6 a6
  exact at_set h6 7 a7
theorem kept_set8 {W w : World} (h : Kept W w) {G : Nat} (hG : W.heap.size ≤ G) (a0 a1 a2 a3 a4 a5 a6 a7 : Value) : Kept W (set8 w G a0 a1 a2 a3 a4 a5 a6 a7) :=
  kept_set (kept_set (kept_set (kept_set (kept_set (kept_set (kept_set (kept_set h hG 0 a0) hG 1 a1) hG 2 a2) hG 3 a3) hG 4 a4) hG 5 a5) hG 6 a6) hG 7 a7
theorem res1 {fn : Func} {p : Tmp} (h : fn.results = #[.cell p 35]) (tmps : Array Value) {w : World} {X T : Nat} {v0 v1 v2 v3 v4 v5 v6 v7 : Value} (hp : tmps.getD p undef = .pointer (some ⟨X, 0, none⟩)) (hA : At w X #[v0, v1, v2, v3, v4, v5, v6, v7] T) :
    (results fn tmps).run Try.prog w = .ok (.agg #[v0, v1, v2, v3, v4, v5, v6, v7]) w := by
  obtain ⟨c0, c1, c2, c3, c4, c5, c6, c7, -⟩ := at_cells8 hA
  have hp' : tmps[p]?.getD undef = .pointer (some ⟨X, 0, none⟩) := by simpa using hp
  simp [results, h, go_sem, hp', c0, c1, c2, c3, c4, c5, c6, c7]
set_option maxHeartbeats 1600000 in
theorem fresh_any (r : R) (hk : r.key.size ≤ 1000) (w : World) : Calls Try.prog 33 #[.agg #[.string r.key, .int .u64 r.s.p, .int .u32 r.s.l, .int .u8 r.s.n, .int .u8 r.kind, .int .u32 r.flags, .int .u64 r.exp, .string r.body]] w fun e w' => e = .returned (.agg #[.string r.key, .int .u64 r.s.p, .int .u32 r.s.l, .int .u8 r.s.n, .int .u8 r.kind, .int .u32 r.flags, .int .u64 r.exp, .string r.body]) ∧ Kept w w' := by
  have hz := zeroRv
  have K0 := kept_alloc (kept_alloc (kept_refl w) (.cells #[.string r.key, .int .u64 r.s.p, .int .u32 r.s.l, .int .u8 r.s.n, .int .u8 r.kind, .int .u32 r.flags, .int .u64 r.exp, .string r.body] 35)) (.cells #[.string ⟨#[]⟩, .int .u64 0, .int .u32 0, .int .u8 0, .int .u8 0, .int .u32 0, .int .u64 0, .string ⟨#[]⟩] 35)
  have A0 := at_alloc (at_new w #[.string r.key, .int .u64 r.s.p, .int .u32 r.s.l, .int .u8 r.s.n, .int .u8 r.kind, .int .u32 r.flags, .int .u64 r.exp, .string r.body] 35) (.cells #[.string ⟨#[]⟩, .int .u64 0, .int .u32 0, .int .u8 0, .int .u8 0, .int .u32 0, .int .u64 0, .string ⟨#[]⟩] 35)
  have B0 := at_new (w.alloc (.cells #[.string r.key, .int .u64 r.s.p, .int .u32 r.s.l, .int .u8 r.s.n, .int .u8 r.kind, .int .u32 r.flags, .int .u64 r.exp, .string r.body] 35)) #[.string ⟨#[]⟩, .int .u64 0, .int .u32 0, .int .u8 0, .int .u8 0, .int .u32 0, .int .u64 0, .string ⟨#[]⟩] 35
  simp only [World.size_alloc] at B0
  have HC := hid (fun u => clone_any r.key (by omega) u)
  have HX : Hid (w.heap.size ≤ w.heap.size ∧ w.heap.size ≤ w.heap.size + 1) := hid (by omega)
  obtain ⟨N, hN⟩ : ∃ N, w.heap.size = N := ⟨_, rfl⟩
  rw [hN] at A0 B0
  have HN := hid hN
  obtain ⟨b0, b1, b2, b3, b4, b5, b6, b7⟩ := at_cells8' A0
  clear hk
  go_enter Try.func33, Try.ntmps33
  go_wp2_with fail
  generalize (w.alloc (.cells #[.string r.key, .int .u64 r.s.p, .int .u32 r.s.l, .int .u8 r.s.n, .int .u8 r.kind, .int .u32 r.flags, .int .u64 r.exp, .string r.body] 35)).alloc (.cells #[.string ⟨#[]⟩, .int .u64 0, .int .u32 0, .int .u8 0, .int .u8 0, .int .u32 0, .int .u64 0, .string ⟨#[]⟩] 35) = w0 at *
  obtain ⟨Y, hY⟩ : ∃ Y, N + 1 = Y := ⟨_, rfl⟩
  simp only [hY] at B0 ⊢
  refine (HC.out _).mono ?_
  rintro e w1 ⟨rfl, h1⟩
  have k1 := kept_below h1
  have A1 := at_kept A0 k1
  have B1 := at_kept B0 k1
  have hne : Y ≠ N := by omega
  have A2 : At (w1.setCell ⟨N, 0, none⟩ (.string r.key)) N #[.string r.key, .int .u64 r.s.p, .int .u32 r.s.l, .int .u8 r.s.n, .int .u8 r.kind, .int .u32 r.flags, .int .u64 r.exp, .string r.body] 35 := at_set A1 0 (.string r.key)
  have B2 := at_other B1 hne 0 (.string r.key)
  have K2 := kept_set (kept_trans K0 k1) (X := N) (by omega) 0 (.string r.key)
  have c0 : w1.cell? ⟨N, 0, none⟩ = some (.string r.key) := at_cell A1 0
  have cf : w1.frozen? ⟨N, 0, none⟩ = false := at_frozen A1 0
  obtain ⟨w2, hw2⟩ : ∃ w2, w1.setCell ⟨N, 0, none⟩ (.string r.key) = w2 := ⟨_, rfl⟩
  rw [hw2] at A2 B2 K2
  obtain ⟨a0, a1, a2, a3, a4, a5, a6, a7⟩ := at_cells8' A2
  obtain ⟨d0, d1, d2, d3, d4, d5, d6, d7, df⟩ := at_cells8 B2
  have E3 := hid (at_set8 B2 (.string r.key) (.int .u64 r.s.p) (.int .u32 r.s.l) (.int .u8 r.s.n) (.int .u8 r.kind) (.int .u32 r.flags) (.int .u64 r.exp) (.string r.body))
  have E4 := hid (kept_set8 K2 (G := Y) (by omega) (.string r.key) (.int .u64 r.s.p) (.int .u32 r.s.l) (.int .u8 r.s.n) (.int .u8 r.kind) (.int .u32 r.flags) (.int .u64 r.exp) (.string r.body))
  clear A0 B0 A1 B1 A2 B2 K0 K2 k1 h1 b0 b1 b2 b3 b4 b5 b6 b7 hY hN hne
  go_wp2_with fail
  exact bodyPost_ret (res1 Try.results33 _ rfl E3.out) rfl ⟨rfl, E4.out⟩
/- Whether all owners have it. -/
theorem all_part (has : Nat → Bool) {os : List Int} {k : Nat} {j : Nat} (hj : os[j]? = some (k : Int)) : (os.take (j + 1)).all (fun o => has o.toNat) = ((os.take j).all (fun o => has o.toNat) && has k) := by
  rw [List.take_add_one, hj, List.all_append]
  simp
set_option maxHeartbeats 3200000 in
theorem settled_any (x : Ht) (hk : x.r.key.size ≤ 1000) (up : List Int) (hu : U8 up) (v : Value) (w : World) (h : Rg encU 1 w v up) : Calls Try.prog 41 #[.agg #[.string x.r.key, .int .u64 x.r.s.p, .int .u32 x.r.s.l, .int .u8 x.r.s.n, .int .u8 x.r.kind, .int .u32 x.r.flags, .int .u64 x.r.exp, .string x.r.body, .int .u64 (ackI x.has 64)], v] w fun e w' => e = .returned (.bool (allH up x)) ∧ Kept w w' := by
  have HA := hid (at_new w #[.string x.r.key, .int .u64 x.r.s.p, .int .u32 x.r.s.l, .int .u8 x.r.s.n, .int .u8 x.r.kind, .int .u32 x.r.flags, .int .u64 x.r.exp, .string x.r.body, .int .u64 (ackI x.has 64)] 61)
  have HK := hid (kept_alloc (kept_refl w) (.cells #[.string x.r.key, .int .u64 x.r.s.p, .int .u32 x.r.s.l, .int .u8 x.r.s.n, .int .u8 x.r.kind, .int .u32 x.r.flags, .int .u64 x.r.exp, .string x.r.body, .int .u64 (ackI x.has 64)] 61))
  have hO := owners_any x.r.key up v _ hk hu (rg_kept encU_ok h HK.out)
  have HH := hid (fun (k : Nat) (hk : k < 64) (u : World) => has_any x k hk u)
  obtain ⟨b0, b1, b2, b3, b4, b5, b6, b7, b8⟩ := cells9 HA.out
  clear hk hu h
  go_enter Try.func41, Try.ntmps41
  go_wp2_with fail
  refine hO.mono ?_
  rintro e w1 ⟨v1, rfl, o1, k1⟩
  have HK1 := hid (kept_trans HK.out k1)
  have HA1 := hid (at_kept HA.out k1)
  have HR := hid (rg_own encU_ok o1)
  obtain ⟨oa, oc, rfl, hoc1, hoc2⟩ := og_is encU_ok o1
  clear o1 k1 hO b0 b1 b2 b3 b4 b5 b6 b7 b8 HK HA
  have HOn : Hid (∀ (j : Nat) (y : Int), (owners x.r.key up)[j]? = some y → ∃ k : Nat, y = (k : Int) ∧ k < 64) := hid (fun j y hj => owner_nat hj)
  have HE : Hid (allH up x = (decide (0 < (owners x.r.key up).length) && (owners x.r.key up).all (fun o => x.has o.toNat))) := hid rfl
  generalize owners x.r.key up = os at *
  have HT : Hid (os.take os.length = os) := hid List.take_length
  have HG : Hid (∀ k : Nat, k < os.length → ∃ y, os[k]? = some y) := hid (fun k hk => ⟨os[k], List.getElem?_eq_getElem hk⟩)
  have HP : Hid (0 < os.length → ∃ g o, oa = some ⟨g, o, none⟩) := hid (fun hp => by
    obtain ⟨g, o, c, e⟩ := rg_pos HR.out hp
    injection e with e1
    exact ⟨g, o, e1⟩)
  generalize hq : os.length = q at *
  clear hq
  unfold maxLen at hoc2
  go_wp2_with fail
  go_loopw [15] (fun jv wr => ∃ j : Nat, j ≤ q ∧ jv = .int .i64 (j : Int) ∧ Hid ((os.take j).all (fun o => x.has o.toNat) = true) ∧ Hid (Kept w1 wr)) (fun jv _ => q - (intOf jv).toNat)
  case atStart => exact ⟨0, by omega, rfl, hid (by simp), hid (kept_refl w1)⟩
  case round =>
    obtain ⟨j, hj, rfl, HAl, HKr⟩ := hrel
    by_cases hlt : j < q
    · have hltz : (j : Int) < (q : Int) := by omega
      obtain ⟨y, hy⟩ := HG.out j hlt
      obtain ⟨k, rfl, hk64⟩ := HOn.out j y hy
      obtain ⟨gq, oq, rfl⟩ := HP.out (by omega)
      have c0 := rg_U (rg_kept encU_ok HR.out HKr.out) hy
      obtain ⟨b0, b1, b2, b3, b4, b5, b6, b7, b8⟩ := cells9 (at_kept HA1.out HKr.out)
      have hh := HH.out k hk64 wr
      have HPt := hid (all_part x.has hy)
      clear hy
      cases hb : x.has k with
      | true =>
        rw [hb] at hh HPt
        have HAl2 : Hid ((os.take (j + 1)).all (fun o => x.has o.toNat) = true) := hid (by rw [HPt.out, HAl.out]; rfl)
        clear hb
        go_wp2_with fail
        refine hh.mono ?_
        rintro e w2 ⟨rfl, k2⟩
        have HK2 := hid (kept_trans HKr.out k2)
        clear hh k2 c0 b0 b1 b2 b3 b4 b5 b6 b7 b8
        go_wp2_with fail
        go_roundw
        case rel => exact ⟨j + 1, by omega, by go_num, HAl2, HK2⟩
        case measure => simp [intOf]; omega
      | false =>
        rw [hb] at hh HPt
        have HF : Hid (allH up x = false) := hid (by
          rw [HE.out]
          have h1 : os.all (fun o => x.has o.toNat) = false := by
            cases h2 : os.all (fun o => x.has o.toNat) with
            | false => rfl
            | true =>
              have h3 := HPt.out
              rw [Bool.and_false] at h3
              rw [List.all_eq_true] at h2
              rw [List.all_eq_false] at h3
              obtain ⟨z, hz, hz2⟩ := h3
              exact absurd (h2 z (List.mem_of_mem_take hz)) hz2
          rw [h1, Bool.and_false])
        clear hb
        go_wp2_with fail
        refine hh.mono ?_
        rintro e w2 ⟨rfl, k2⟩
        have HK2 := hid (kept_trans HK1.out (kept_trans HKr.out k2))
        clear hh k2 c0 b0 b1 b2 b3 b4 b5 b6 b7 b8
        go_wp2_with fail
        go_ret
        exact ⟨ret_bool HF.out.symm, HK2.out⟩
    · have hltz : ¬ (j : Int) < (q : Int) := by omega
      obtain rfl : j = q := by omega
      have HF : Hid (allH up x = decide (0 < j)) := hid (by
        rw [HE.out]
        have h1 := HAl.out
        rw [HT.out] at h1
        rw [h1, Bool.and_true])
      go_wp2_with fail
      go_ret
      exact ⟨ret_bool HF.out.symm, kept_trans HK1.out HKr.out⟩
theorem setclo_any (x : Ht) (hk : x.r.key.size ≤ 1000) (up : List Int) (hu : U8 up) (v : Value) (Z T : Nat) (w : World) (hZ : At w Z #[v] T) (h : Rg encU 1 w v up) : Calls Try.prog 40 #[.agg #[.string x.r.key, .int .u64 x.r.s.p, .int .u32 x.r.s.l, .int .u8 x.r.s.n, .int .u8 x.r.kind, .int .u32 x.r.flags, .int .u64 x.r.exp, .string x.r.body, .int .u64 (ackI x.has 64)], .pointer (some ⟨Z, 0, none⟩)] w fun e w' => e = .returned (.bool (allH up x)) ∧ Kept w w' := by
  have HA := hid (at_new w #[.string x.r.key, .int .u64 x.r.s.p, .int .u32 x.r.s.l, .int .u8 x.r.s.n, .int .u8 x.r.kind, .int .u32 x.r.flags, .int .u64 x.r.exp, .string x.r.body, .int .u64 (ackI x.has 64)] 61)
  have HK := hid (kept_alloc (kept_refl w) (.cells #[.string x.r.key, .int .u64 x.r.s.p, .int .u32 x.r.s.l, .int .u8 x.r.s.n, .int .u8 x.r.kind, .int .u32 x.r.flags, .int .u64 x.r.exp, .string x.r.body, .int .u64 (ackI x.has 64)] 61))
  have hS := settled_any x hk up hu v _ (rg_kept encU_ok h HK.out)
  have z0 := at_cell (at_kept hZ HK.out) 0
  obtain ⟨b0, b1, b2, b3, b4, b5, b6, b7, b8⟩ := cells9 HA.out
  obtain ⟨va, vc, rfl, -, -⟩ := rg_is h
  have z1 : (w.alloc (.cells #[.string x.r.key, .int .u64 x.r.s.p, .int .u32 x.r.s.l, .int .u8 x.r.s.n, .int .u8 x.r.kind, .int .u32 x.r.flags, .int .u64 x.r.exp, .string x.r.body, .int .u64 (ackI x.has 64)] 61)).cell? ⟨Z, 0, none⟩ = some (.slice va up.length vc) := z0
  clear hk hu h hZ z0
  go_enter Try.func40, Try.ntmps40
  go_wp2_with fail
  refine hS.mono ?_
  rintro e w1 ⟨rfl, k1⟩
  have HK1 := hid (kept_trans HK.out k1)
  clear k1 hS b0 b1 b2 b3 b4 b5 b6 b7 b8 z1
  go_wp2_with fail
  go_ret
  exact ⟨rfl, HK1.out⟩
theorem entersS : Enters 40 := enters_of Try.func40 (by kernel_rfl) rfl
end Go.Proofs.Ytahgplfkgijecaa


namespace Go.Proofs.Ytahgplfkgijecaa
open Go.ChangeShapes Go.WideShapes Go.ChangeAt Go.RowKit
set_option linter.unusedVariables false
set_option linter.unusedSimpArgs false
set_option maxRecDepth 100000

/- Room, and a row of one's own. -/
def HO : Shape Hs := fun w X s F => ∃ v, At w X #[.int .i64 (s.n : Int), v] 70 ∧ Og encH 9 61 w 0 v s.l ∧ ∀ b, F b ↔ (b = X ∨ v.ownBlock = some b)
theorem ho_lt {w : World} {X b : Nat} {s : Hs} {F : Nat → Prop} (h : HO w X s F) (hb : F b) : b < w.heap.size := by
  obtain ⟨v, hX, hO, hF⟩ := h
  rcases (hF b).1 hb with rfl | e
  · exact at_lt hX
  · exact (World.ownsRow.lt hO b e).2
theorem ho_stay {w w' : World} {X : Nat} {s : Hs} {F : Nat → Prop} (h : HO w X s F) (hs : ∀ b, F b → w'.heap[b]? = w.heap[b]?) : HO w' X s F := by
  obtain ⟨v, hX, hO, hF⟩ := h
  exact ⟨v, (hs X ((hF X).2 (.inl rfl))).trans hX, og_block hO (fun g cur hg _ => hs g ((hF g).2 (.inr hg))), hF⟩
theorem own_typeH {w : World} {v : Value} {l : List Ht} {b : Nat} (h : Og encH 9 61 w 0 v l) (hb : v.ownBlock = some b) : ∃ cs, At w b cs 61 := own_at h hb
theorem ho_ne {w : World} {X n : Nat} {v : Value} {l : List Ht} (hX : At w X #[.int .i64 (n : Int), v] 70) (hO : Og encH 9 61 w 0 v l) : ∀ b, v.ownBlock = some b → b ≠ X := own_ne hO hX (by decide)
/- A new row is laid into the object. -/
theorem ho_store {w : World} {X n : Nat} {v0 v : Value} {l : List Ht} (hX : At w X #[.int .i64 (n : Int), v0] 70) (hO : Og encH 9 61 w 0 v l) : HO (w.setCell ⟨X, 1, none⟩ v) X ⟨n, l⟩ (fun b => b = X ∨ v.ownBlock = some b) := by
  refine ⟨v, at_set hX 1 v, og_block hO (fun g cur hg ha => ?_), fun b => Iff.rfl⟩
  exact Below.heap_setCell _ _ _ _ (by show g ≠ X; exact at_ne ha hX (by decide))
theorem at_cells2 {w : World} {X T : Nat} {a0 a1 : Value} (h : At w X #[a0, a1] T) : w.cell? ⟨X, 0, none⟩ = some a0 ∧ w.cell? ⟨X, 1, none⟩ = some a1 ∧ ∀ j, w.frozen? ⟨X, j, none⟩ = false := ⟨at_cell h 0, at_cell h 1, at_frozen h⟩
/- New. -/
def NewC (n : Nat) (w : World) (e : Ending) (w' : World) : Prop := ∃ X F, e = .returned (.tuple #[.pointer (some ⟨X, 0, none⟩), .int .i64 0]) ∧ HO w' X ⟨n, []⟩ F ∧ Kept w w' ∧ ∀ b, F b → w.heap.size ≤ b
theorem new_is (n : Nat) (w : World) (h1 : 1 ≤ n) (h2 : n ≤ 64) : Calls Try.prog 8 #[.int .i64 (n : Int)] w (NewC n w) := by
  have HA := hid (at_new w #[.int .i64 (n : Int), .slice none 0 0] 70)
  have HK := hid (kept_alloc (kept_refl w) (.cells #[.int .i64 (n : Int), .slice none 0 0] 70))
  have d1 : ¬ (n : Int) < 1 := by omega
  have d2 : ¬ (64 : Int) < (n : Int) := by omega
  clear h1 h2
  go_enter Try.func8, Try.ntmps8
  go_wp2_with fail
  go_ret2
  exact ⟨w.heap.size, fun b => b = w.heap.size, rfl, ⟨_, HA.out, og_nil _ _ _ _ _, fun b => ⟨.inl, fun h => h.elim id (fun e => by cases e)⟩⟩, HK.out, fun b hb => by rw [hb]; exact Nat.le_refl _⟩
theorem new_no (n : Int) (w : World) (h : ¬ (1 ≤ n ∧ n ≤ 64)) : Calls Try.prog 8 #[.int .i64 n] w fun e w' => e = .returned (.tuple #[.pointer none, .int .i64 1]) ∧ Kept w w' := by
  have HK := hid (kept_refl w)
  by_cases h1 : n < 1
  · have d1 : decide (n < 1) = true := by simpa using h1
    clear h
    go_enter Try.func8, Try.ntmps8
    go_wp2_with fail
    go_ret2
    exact ⟨rfl, HK.out⟩
  · have h2 : (64 : Int) < n := by omega
    have d1 : decide (n < 1) = false := by simpa using h1
    clear h
    go_enter Try.func8, Try.ntmps8
    go_wp2_with fail
    go_ret2
    exact ⟨rfl, HK.out⟩
/- Len. -/
theorem len_is (X : Nat) (s : Hs) (F : Nat → Prop) (w : World) (h : HO w X s F) : Calls Try.prog 22 #[.pointer (some ⟨X, 0, none⟩)] w fun e w' => e = .returned (.int .i64 (s.l.length : Int)) ∧ Kept w w' := by
  obtain ⟨v, hX, hO, -⟩ := h
  obtain ⟨va, vc, rfl, -, -⟩ := og_is encH_ok hO
  obtain ⟨c0, c1, -⟩ := at_cells2 hX
  have HK := hid (kept_refl w)
  clear hX hO
  go_enter Try.func22, Try.ntmps22
  go_wp2_with fail
  go_ret
  exact ⟨rfl, HK.out⟩
/- place. -/
theorem place_any (X n : Nat) (l : List Ht) (v : Value) (hl : l.length ≤ 1000) (hr : Rise l) (key : ByteArray) (w : World) (hX : At w X #[.int .i64 (n : Int), v] 70) (hO : Og encH 9 61 w 0 v l) : Calls Try.prog 31 #[.pointer (some ⟨X, 0, none⟩), .string key] w (BinC l key w) := by
  have hB := bin_any l hl hr key v w (rg_own encH_ok hO)
  obtain ⟨va, vc, rfl, -, -⟩ := og_is encH_ok hO
  obtain ⟨c0, c1, -⟩ := at_cells2 hX
  clear hX hO hl hr
  go_enter Try.func31, Try.ntmps31
  go_wp2_with fail
  refine hB.mono ?_
  rintro e w1 ⟨i, hc, rfl, k1⟩
  have HC := hid hc
  have HK := hid k1
  clear hc k1 hB c0 c1
  go_wp2_with fail
  go_ret2
  exact ⟨i, HC.out, rfl, HK.out⟩
/- Nil hints. -/
theorem add_none (r : R) (w : World) : Calls Try.prog 12 #[.pointer none, .agg #[.string r.key, .int .u64 r.s.p, .int .u32 r.s.l, .int .u8 r.s.n, .int .u8 r.kind, .int .u32 r.flags, .int .u64 r.exp, .string r.body]] w fun e w' => e = .returned (.int .i64 1) ∧ Kept w w' := by
  have HK := hid (kept_alloc (kept_refl w) (.cells #[.string r.key, .int .u64 r.s.p, .int .u32 r.s.l, .int .u8 r.s.n, .int .u8 r.kind, .int .u32 r.flags, .int .u64 r.exp, .string r.body] 35))
  go_enter Try.func12, Try.ntmps12
  go_wp2_with fail
  go_ret
  exact ⟨rfl, HK.out⟩
theorem ack_none (key : ByteArray) (st : Stp) (node : Int) (w : World) : Calls Try.prog 14 #[.pointer none, .string key, .agg #[.int .u64 st.p, .int .u32 st.l, .int .u8 st.n], .int .u8 node] w fun e w' => e = .returned (.bool false) ∧ Kept w w' := by
  have HK := hid (kept_alloc (kept_refl w) (.cells #[.int .u64 st.p, .int .u32 st.l, .int .u8 st.n] 33))
  go_enter Try.func14, Try.ntmps14
  go_wp2_with fail
  go_ret
  exact ⟨rfl, HK.out⟩
theorem missing_none (v : Value) (w : World) : Calls Try.prog 16 #[.pointer none, v] w fun e w' => ∃ a cap, e = .returned (.slice a 0 cap) ∧ Kept w w' := by
  have HK := hid (kept_refl w)
  go_enter Try.func16, Try.ntmps16
  go_wp2_with fail
  go_ret
  exact ⟨none, 0, rfl, HK.out⟩
theorem settle_none (up : List Int) (v : Value) (w : World) (h : Rg encU 1 w v up) : Calls Try.prog 19 #[.pointer none, v] w fun e w' => e = .returned (.int .i64 0) ∧ Kept w w' := by
  obtain ⟨va, vc, rfl, -, -⟩ := rg_is h
  have HK := hid (kept_alloc (kept_refl w) (.cells #[.slice va up.length vc] 36))
  clear h
  go_enter Try.func19, Try.ntmps19
  go_wp2_with fail
  go_ret
  exact ⟨rfl, HK.out⟩
theorem all_none (w : World) : Calls Try.prog 21 #[.pointer none] w fun e w' => ∃ a cap, e = .returned (.slice a 0 cap) ∧ Kept w w' := by
  have HK := hid (kept_refl w)
  go_enter Try.func21, Try.ntmps21
  go_wp2_with fail
  go_ret
  exact ⟨none, 0, rfl, HK.out⟩
theorem len_none (w : World) : Calls Try.prog 22 #[.pointer none] w fun e w' => e = .returned (.int .i64 0) ∧ Kept w w' := by
  have HK := hid (kept_refl w)
  go_enter Try.func22, Try.ntmps22
  go_wp2_with fail
  go_ret
  exact ⟨rfl, HK.out⟩
end Go.Proofs.Ytahgplfkgijecaa
