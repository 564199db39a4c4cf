/- The contracts of slices.IndexFunc and slices.DeleteFunc at rows of pieces, for a closure that only reads what isn't the row (PredOk). Rows have at most 1000 members. -/
import Derived.Test.YtalcbahnhiibkaaTkCode1
namespace Go.Proofs.Ytalcbahnhiibkaa
open Go.ChangeShapes Go.WideShapes Go.ChangeAt Go.RowKit
set_option linter.unusedVariables false
set_option linter.unusedSimpArgs false
set_option maxRecDepth 100000

def Enters (g : Nat) : Prop := ∀ (args : Array Value) (w : World), (callFunc g args).run Try.prog w = .ok (.enter g args) w
def PredOk (g : Nat) (c : Value) (p : Pc → Bool) (G : Nat) (w : World) : Prop := ∀ (u : World) (q : Pc), Turn G w u → Calls Try.prog g #[.agg #[.int .u8 q.x.node, .int .u8 q.x.st, .int .u32 q.x.inc, .int .i64 (q.told : Int)], c] u fun e u' => e = .returned (.bool (p q)) ∧ Kept u u'
/- The first one that goes. -/
def fst (p : Pc → Bool) (l : List Pc) (i : Nat) : Prop := i < l.length ∧ (∃ q, l[i]? = some q ∧ p q = true) ∧ ∀ (j : Nat) (q : Pc), j < i → l[j]? = some q → p q = false
def IdxC (p : Pc → Bool) (l : List Pc) (w : World) (e : Ending) (w' : World) : Prop := ∃ z, e = .returned (.int .i64 z) ∧ ((z = -1 ∧ ∀ (j : Nat) (q : Pc), l[j]? = some q → p q = false) ∨ ∃ i : Nat, z = (i : Int) ∧ fst p l i) ∧ Kept w w'
set_option maxHeartbeats 1600000 in
theorem idx_any {g G : Nat} {c : Value} {p : Pc → Bool} {l : List Pc} (eg : Enters g) (hl : l.length ≤ 1000) (v : Value) (w : World) (h : Rg encP 4 w v l) (hp : PredOk g c p G w) :
    Calls Try.prog 24 #[v, .func (.func g) #[] #[c]] w (IdxC p l w) := by
  have HR := hid h
  have HP := hid hp
  obtain ⟨a, cap, rfl, -, -, -, -⟩ := h
  have HG : Hid (∀ k : Nat, k < l.length → ∃ y, l[k]? = some y) := hid (fun k hk => ⟨l[k], List.getElem?_eq_getElem hk⟩)
  have HQ : Hid (0 < l.length → ∃ g o, a = some ⟨g, o, none⟩) := hid (fun hp => by
    obtain ⟨g, o, c, e⟩ := rg_pos HR.out hp
    injection e with e1
    exact ⟨g, o, e1⟩)
  have HL : Hid (∀ (j : Nat) (q : Pc), l[j]? = some q → j < l.length) := hid (fun j q hj => (List.getElem?_eq_some_iff.1 hj).1)
  have eg2 : ∀ (args : Array Value) (w : World), (callFunc g args).run Try.prog w = .ok (.enter g args) w := eg
  clear hp eg
  generalize hnn : l.length = n at *
  go_enter Try.func24, Try.ntmps24
  go_wp2_with fail
  go_loopw [8] (fun j wr => ∃ k : Nat, k ≤ n ∧ j = .int .i64 (k : Int) ∧ Hid (∀ (j : Nat) (q : Pc), j < k → l[j]? = some q → p q = false) ∧ Hid (Kept w wr)) (fun j _ => n - (intOf j).toNat)
  case atStart => exact ⟨0, Nat.zero_le _, rfl, hid (fun j q hj => by omega), hid (kept_refl w)⟩
  case round =>
    obtain ⟨k, hk, rfl, HN, HK⟩ := hrel
    by_cases hlt : k < n
    · have hltz : (k : Int) < (n : Int) := by omega
      obtain ⟨y, hy⟩ := HG.out k hlt
      obtain ⟨g1, o, rfl⟩ := HQ.out (by omega)
      obtain ⟨c0, c1, c2, c3⟩ := rg_P (rg_kept encP_ok HR.out HK.out) hy
      have hC := HP.out wr y (turn_kept HK.out)
      have HY := hid hy
      clear hy
      cases hb : p y with
      | false =>
        rw [hb] at hC
        have HB := hid hb
        clear hb
        go_wp2_with fail
        refine hC.mono ?_
        rintro e w1 ⟨rfl, k1⟩
        have HK1 := hid (kept_trans HK.out k1)
        clear k1 hC c0 c1 c2 c3
        go_wp2_with fail
        go_roundw
        case rel =>
          refine ⟨k + 1, by omega, by go_num, hid (fun j q h1 h2 => ?_), HK1⟩
          by_cases e : j = k
          · subst e
            rw [HY.out] at h2
            injection h2 with h2
            rw [← h2]; exact HB.out
          · exact HN.out j q (by omega) h2
        case measure => simp [intOf]; omega
      | true =>
        rw [hb] at hC
        have HB := hid hb
        clear hb
        go_wp2_with fail
        refine hC.mono ?_
        rintro e w1 ⟨rfl, k1⟩
        have HK1 := hid (kept_trans HK.out k1)
        clear k1 hC c0 c1 c2 c3
        go_wp2_with fail
        go_ret
        exact ⟨_, rfl, .inr ⟨k, rfl, by rw [hnn]; exact hlt, ⟨y, HY.out, HB.out⟩, HN.out⟩, HK1.out⟩
    · have hltz : ¬ (k : Int) < (n : Int) := by omega
      go_wp2_with fail
      go_ret
      exact ⟨_, rfl, .inl ⟨rfl, fun j q hj => HN.out j q (by have := HL.out j q hj; omega) hj⟩, HK.out⟩
/- The row while pieces go: what stays of the first j, then anything, then the rest as it was. -/
structure Mov (p : Pc → Bool) (l M : List Pc) (i j : Nat) : Prop where
  len : M.length = l.length
  lt : i < j
  le : j ≤ l.length
  low : M.take i = (l.take j).filter (fun q => !p q)
  high : M.drop j = l.drop j
theorem filter_next {p : Pc → Bool} {l : List Pc} {k : Nat} {y : Pc} (h : l[k]? = some y) : (l.take (k + 1)).filter p = (l.take k).filter p ++ (if p y then [y] else []) := by
  rw [take_next h, List.filter_append]
  congr 1
  cases e : p y <;> simp [e]
theorem mov_start {p : Pc → Bool} {l : List Pc} {i : Nat} (h : fst p l i) : Mov p l l i (i + 1) := by
  obtain ⟨h1, ⟨q, hq, hp⟩, h3⟩ := h
  refine ⟨rfl, by omega, by omega, ?_, rfl⟩
  rw [filter_next hq, hp, if_neg (by simp), List.append_nil]
  refine (List.filter_eq_self.2 (fun x hx => ?_)).symm
  obtain ⟨j, hj⟩ := List.mem_iff_getElem?.1 hx
  rw [List.getElem?_take] at hj
  split at hj
  · rw [h3 j x (by omega) hj]; rfl
  · cases hj
theorem mov_skip {p : Pc → Bool} {l M : List Pc} {i j : Nat} {y : Pc} (h : Mov p l M i j) (hy : l[j]? = some y) (hp : p y = true) : Mov p l M i (j + 1) := by
  have hj := (List.getElem?_eq_some_iff.1 hy).1
  refine ⟨h.len, by have := h.lt; omega, hj, ?_, ?_⟩
  · rw [filter_next hy, hp, if_neg (by simp), List.append_nil]; exact h.low
  · have := congrArg (List.drop 1) h.high
    rw [List.drop_drop, List.drop_drop] at this
    exact this
theorem mov_keep {p : Pc → Bool} {l M : List Pc} {i j : Nat} {y : Pc} (h : Mov p l M i j) (hy : l[j]? = some y) (hp : p y = false) : Mov p l (M.set i y) (i + 1) (j + 1) := by
  have hj := (List.getElem?_eq_some_iff.1 hy).1
  have hi := h.lt
  have hl := h.len
  refine ⟨by rw [List.length_set]; exact hl, by omega, hj, ?_, ?_⟩
  · have hg : (M.set i y)[i]? = some y := by rw [List.getElem?_set, if_pos rfl, if_pos (by omega)]
    rw [filter_next hy, hp, if_pos (by simp), ← h.low, take_next hg]
    congr 1
    rw [List.take_set_of_le (Nat.le_refl _)]
  · rw [List.drop_set_of_lt (by omega)]
    have := congrArg (List.drop 1) h.high
    rw [List.drop_drop, List.drop_drop] at this
    exact this
theorem mov_done {p : Pc → Bool} {l M : List Pc} {i : Nat} (h : Mov p l M i l.length) : M.take i = l.filter (fun q => !p q) := by rw [h.low, List.take_length]
theorem mov_get {p : Pc → Bool} {l M : List Pc} {i j : Nat} (h : Mov p l M i j) : M[j]? = l[j]? := by
  have := congrArg (fun x => x[0]?) h.high
  simp only [List.getElem?_drop, Nat.add_zero] at this
  exact this
theorem zeroLp (w : World) : (zeroValue 62).run Try.prog w = .ok (.agg #[.int .u8 0, .int .u8 0, .int .u32 0, .int .i64 0]) w := by kernel_rfl
def DelC (v : Value) (l : List Pc) (w : World) (G : Nat) (e : Ending) (w' : World) : Prop := ∃ v', e = .returned v' ∧ Og encP 4 62 w' 0 v' l ∧ v'.ownBlock = v.ownBlock ∧ Turn G w w'
set_option maxHeartbeats 6400000 in
theorem del_some {g G n cap : Nat} {c : Value} {p : Pc → Bool} {l : List Pc} (eg : Enters g) (hl : l.length ≤ 1000) (w : World) (h : Og encP 4 62 w 0 (.slice (some ⟨G, 0, none⟩) n cap) l) (hp : PredOk g c p G w) :
    Calls Try.prog 17 #[.slice (some ⟨G, 0, none⟩) n cap, .func (.func g) #[] #[c]] w (DelC (.slice (some ⟨G, 0, none⟩) n cap) (l.filter (fun q => !p q)) w G) := by
  have hI := idx_any eg hl _ w (rg_own encP_ok h) hp
  have HO := hid h
  have HP := hid hp
  have hln := (og_len encP_ok h).1
  have HC : Hid (n ≤ cap ∧ cap ≤ maxLen) := hid (og_len encP_ok h).2
  have hn : n ≤ 1000 := by omega
  have HLn := hid hln
  have eg2 : ∀ (args : Array Value) (w : World), (callFunc g args).run Try.prog w = .ok (.enter g args) w := eg
  clear hp eg h hln hl
  go_enter Try.func17, Try.ntmps17
  go_wp2_with fail
  refine hI.mono ?_
  rintro e w1 ⟨z, rfl, hz, k1⟩
  have HK1 := hid k1
  clear k1 hI
  rcases hz with ⟨rfl, hall⟩ | ⟨i, rfl, hf⟩
  · have HA := hid hall
    clear hall
    go_wp2_with fail
    go_ret
    refine ⟨_, rfl, ?_, rfl, turn_kept HK1.out⟩
    rw [List.filter_eq_self.2 (fun x hx => by
      obtain ⟨j, hj⟩ := List.mem_iff_getElem?.1 hx
      rw [HA.out j x hj]; rfl)]
    exact og_stays HO.out HK1.out
  · have HM := hid (mov_start hf)
    have hi : i < n := by have := hf.1; have := HLn.out; omega
    have hne : ((i : Int) == -1) = false := by rw [beq_eq_false_iff_ne]; omega
    clear hf
    go_wp2_with fail
    go_loopw [5, 6] (fun s5 s6 wr => ∃ (i j : Nat) (M : List Pc), s5 = .int .i64 (i : Int) ∧ s6 = .int .i64 (j : Int) ∧ i < j ∧ j ≤ n ∧ Hid (Mov p l M i j) ∧ Hid (Og encP 4 62 wr 0 (.slice (some ⟨G, 0, none⟩) n cap) M) ∧ Hid (Turn G w wr)) (fun _ s6 _ => n - (intOf s6).toNat)
    case atStart => exact ⟨i, i + 1, l, rfl, by go_num, by omega, by omega, HM, hid (og_stays HO.out HK1.out), hid (turn_kept HK1.out)⟩
    case round =>
      obtain ⟨i, j, M, rfl, rfl, hij, hjn, HMr, HOr, HTr⟩ := hrel
      clear HM HK1 hne hi
      by_cases hlt : j < n
      · have hltz : (j : Int) < (n : Int) := by omega
        obtain ⟨y, hy⟩ : ∃ y, l[j]? = some y := ⟨l[j]'(by have := HLn.out; omega), List.getElem?_eq_getElem (by have := HLn.out; omega)⟩
        have hMy := (mov_get HMr.out).trans hy
        obtain ⟨c0, c1, c2, c3⟩ := rg_P (rg_own encP_ok HOr.out) hMy
        simp only [Nat.zero_add] at c0 c1 c2 c3
        have HY := hid hy
        have HA := hid (at_new wr #[.int .u8 y.x.node, .int .u8 y.x.st, .int .u32 y.x.inc, .int .i64 (y.told : Int)] 62)
        have HKa := hid (kept_alloc (kept_refl wr) (.cells #[.int .u8 y.x.node, .int .u8 y.x.st, .int .u32 y.x.inc, .int .i64 (y.told : Int)] 62))
        have hC := HP.out _ y (HTr.out.trans (turn_kept HKa.out))
        have hz := zeroLp
        have HIN : Hid (i < n) := hid (by omega)
        clear hy hMy
        cases hb : p y with
        | false =>
          rw [hb] at hC
          have HB := hid hb
          clear hb
          go_wp2_with fail
          refine hC.mono ?_
          rintro e w3 ⟨rfl, k3⟩
          have HK3 := hid (kept_trans HKa.out k3)
          obtain ⟨b0, b1, b2, b3⟩ := cells4 (at_kept HA.out k3)
          have HO3 := hid (og_stays HOr.out HK3.out)
          obtain ⟨z, hz3⟩ : ∃ z, M[i]? = some z := ⟨M[i]'(by have := HMr.out.len; have := HLn.out; omega), List.getElem?_eq_getElem (by have := HMr.out.len; have := HLn.out; omega)⟩
          obtain ⟨d0, d1, d2, d3⟩ := rg_P (rg_own encP_ok HO3.out) hz3
          simp only [Nat.zero_add] at d0 d1 d2 d3
          have hfr : ∀ q, w3.frozen? ⟨G, q, none⟩ = false := og_frozen HO3.out
          have iz : (i : Int) < (n : Int) := by have := HIN.out; omega
          clear k3 hC hz hz3 c0 c1 c2 c3 HA HKa
          generalize wr.heap.size = B at *
          go_wp2_with fail
          go_roundw
          case rel => exact ⟨i + 1, j + 1, M.set i y, by go_num, by go_num, by omega, by omega, hid (mov_keep HMr.out HY.out HB.out), hid (og_set4 encP_ok HO3.out HIN.out rfl), hid (turn_set (turn_set (turn_set (turn_set (HTr.out.trans (turn_kept HK3.out)) _ _) _ _) _ _) _ _)⟩
          case measure => simp [intOf]; omega
        | true =>
          rw [hb] at hC
          have HB := hid hb
          clear hb
          go_wp2_with fail
          refine hC.mono ?_
          rintro e w3 ⟨rfl, k3⟩
          have HK3 := hid (kept_trans HKa.out k3)
          clear k3 hC hz c0 c1 c2 c3 HA HKa
          go_wp2_with fail
          go_roundw
          case rel => exact ⟨i, j + 1, M, rfl, by go_num, by omega, by omega, hid (mov_skip HMr.out HY.out HB.out), hid (og_stays HOr.out HK3.out), hid (HTr.out.trans (turn_kept HK3.out))⟩
          case measure => simp [intOf]; omega
      · have hltz : ¬ (j : Int) < (n : Int) := by omega
        obtain rfl : j = n := by omega
        obtain ⟨cs, hr, ho⟩ := og_clear (cp := cap - i) encP_ok Try.underlying52 (zeroLp wr) rfl (by decide) HOr.out hij 0
        have hr2 : ∀ ty, (Builtin.clear_ #[52] ty #[.slice (some ⟨G, i * 4, none⟩) (j - i) (cap - i)]).run Try.prog wr = .ok (.tuple #[]) (wr.setRow G cs) := fun ty => hr
        have HO4 := hid ho
        have hcz : (i : Int) ≤ (j : Int) := by omega
        have hci : ¬ cap = i := by have := HC.out; omega
        have hci2 : i ≤ cap := by have := HC.out; omega
        clear hr ho
        go_wp2_with fail
        go_ret
        have hm := mov_done (p := p) (l := l) (M := M) (i := i) (by rw [HLn.out]; exact HMr.out)
        rw [hm] at HO4
        refine ⟨_, rfl, HO4.out, rfl, ?_⟩
        exact ⟨HTr.out.1, HTr.out.2.1, by rw [setRow_size]; exact HTr.out.2.2.1, fun q hq hn => (setRow_other hn).trans (HTr.out.2.2.2 q hq hn)⟩
end Go.Proofs.Ytalcbahnhiibkaa
