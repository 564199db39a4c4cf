/- The landed counts in memory: a row of names and numbers, and a map of places beside it. The contracts of find, Get and Add. -/
import Derived.Test.YtibidhmahjbciaaCtAtom
namespace Go.Proofs.Ytibidhmahjbciaa
open Go.ChangeShapes Go.WideShapes Go.ChangeAt Go.RowKit
set_option linter.unusedVariables false
set_option linter.unusedSimpArgs false
set_option maxRecDepth 100000

def rdP (v : Value) : Option (DataW Unit × List MemPlace) :=
  match v with
  | .int .i64 a => some (.lit (.int .i64 a), [])
  | _ => none
theorem rdP_inv {v : Value} {y : DataW Unit × List MemPlace} (h : rdP v = some y) : ∃ c, v = .int .i64 c ∧ y = (.lit (.int .i64 c), []) := by
  unfold rdP at h
  split at h
  · injection h with h
    exact ⟨_, rfl, h.symm⟩
  · cases h
theorem zeroP (w : World) : (zeroValue 3).run Try.prog w = .ok (.int .i64 0) w := by kernel_rfl
def mapP : MapD ByteArray Int := { t := 50, k := 9, e := 3, kv := .string, kl := klT, ok := fun s => s.size ≤ maxLen, ev := .int .i64, ed := fun x => .lit (.int .i64 x), rd := rdP, z := 0 }
theorem mapP_ok : mapP.Ok Try.prog := {
  und := Try.underlying50
  keyed := Maps.string_keyed Try.underlying9
  key := fun s h => WideMaps.keyOf_string_mk Try.underlying9 h
  inj := klT_inj
  zero := zeroP
  reads := fun _ => rfl
  inv := fun v y ps h => by
    obtain ⟨c, e1, e2⟩ := rdP_inv h
    injection e2 with e2 _
    injection e2 with e2
    injection e2 with _ e2
    rw [e1, e2]
    rfl
  invK := fun key l h => klT_inv Try.underlying9 h
  invV := fun v y h => rdP_inv h }
/- Where a name stands. -/
def plcG (l : List Ct) (q : ByteArray) : Option Int := if placeC l q < l.length then some (placeC l q : Int) else none
theorem plc_names {l m : List Ct} (h : l.map (·.name) = m.map (·.name)) : plcG l = plcG m := by
  funext q
  have h1 : l.length = m.length := by simpa using congrArg List.length h
  unfold plcG
  rw [place_names q h, h1]
structure Co (w : World) (X : Nat) (l : List Ct) (G M c : Nat) : Prop where
  x : At w X #[.slice (some ⟨G, 0, none⟩) l.length l.length, .map (some M)] 52
  g : Og encC 2 61 w 0 (.slice (some ⟨G, 0, none⟩) l.length l.length) l
  m : Gm Try.prog mapP w M (plcG l) c
  q : ∀ x ∈ l, QOk x.name
def CoT : Shape (List Ct) := fun w X l F => ∃ G M c, Co w X l G M c ∧ ∀ b, F b ↔ (b = X ∨ b = G ∨ b = M)
section
variable {w w' : World} {X G M c : Nat} {l : List Ct}
theorem co_ne (h : Co w X l G M c) : X ≠ G ∧ X ≠ M ∧ G ≠ M := by
  obtain ⟨cs, hg⟩ := og_type h.g
  obtain ⟨es, clock, hm⟩ := gm_is h.m
  exact ⟨at_ne h.x hg (by decide), at_map h.x hm, at_map hg hm⟩
theorem co_lt (h : Co w X l G M c) : X < w.heap.size ∧ G < w.heap.size ∧ M < w.heap.size := by
  obtain ⟨cs, hg⟩ := og_type h.g
  exact ⟨at_lt h.x, at_lt hg, gm_lt h.m⟩
theorem co_stay (h : Co w X l G M c) (hx : w'.heap[X]? = w.heap[X]?) (hg : w'.heap[G]? = w.heap[G]?) (hm : w'.heap[M]? = w.heap[M]?) : Co w' X l G M c :=
  ⟨hx.trans h.x, og_block h.g (fun g cur e _ => by
    injection e with e
    subst e
    exact hg), gm_block h.m hm, h.q⟩
theorem co_kept (h : Co w X l G M c) (k : Kept w w') : Co w' X l G M c := co_stay h (kept_block k (co_lt h).1) (kept_block k (co_lt h).2.1) (kept_block k (co_lt h).2.2)
/- One number is laid anew. -/
theorem co_put (h : Co w X l G M c) {i : Nat} {x : Ct} (hx : l[i]? = some x) (n : Int) : Co (w.setCell ⟨G, i * 2 + 1, none⟩ (.int .u64 n)) X (l.set i ⟨x.name, n⟩) G M c := by
  obtain ⟨n1, n2, n3⟩ := co_ne h
  have hn : (l.set i ⟨x.name, n⟩).map (·.name) = l.map (·.name) := by
    apply List.ext_getElem?
    intro j
    rw [List.getElem?_map, List.getElem?_map, List.getElem?_set]
    by_cases e : i = j
    · subst e
      have hl := (List.getElem?_eq_some_iff.1 hx).1
      rw [if_pos rfl, if_pos hl, hx]
      rfl
    · rw [if_neg e]
  refine ⟨?_, ?_, ?_, ?_⟩
  · rw [List.length_set]
    exact at_other h.x n1 _ _
  · rw [List.length_set]
    exact og_put encC_ok h.g (j := 1) hx (by decide) rfl
  · rw [plc_names hn]
    exact gm_block h.m (Below.heap_setCell _ _ _ _ n3.symm)
  · intro y hy
    rcases List.mem_or_eq_of_mem_set hy with hy | rfl
    · exact h.q y hy
    · exact h.q x (List.mem_of_getElem? hx)
end
theorem cot_is : ObjIs CoT where
  lt := fun ⟨G, M, c, h, hF⟩ hb => by
    rcases (hF _).1 hb with rfl | rfl | rfl
    · exact (co_lt h).1
    · exact (co_lt h).2.1
    · exact (co_lt h).2.2
  stay := fun ⟨G, M, c, h, hF⟩ hs => ⟨G, M, c, co_stay h (hs _ ((hF _).2 (.inl rfl))) (hs _ ((hF _).2 (.inr (.inl rfl)))) (hs _ ((hF _).2 (.inr (.inr rfl)))), hF⟩
/- The contract of find. -/
theorem cells2 {w : World} {X T : Nat} {a0 a1 : Value} (h : At w X #[a0, a1] T) : w.cell? ⟨X, 0, none⟩ = some a0 ∧ w.cell? ⟨X, 1, none⟩ = some a1 := ⟨at_cell h 0, at_cell h 1⟩
theorem look2_P {w : World} {M c : Nat} {g : ByteArray → Option Int} (h : Gm Try.prog mapP w M g c) {q : ByteArray} (hq : q.size ≤ maxLen) : (Instr.lookup 50 (.map (some M)) (.string q) true).run Try.prog w = .ok (.tuple #[.int .i64 ((g q).getD 0), .bool (g q).isSome]) w := gm_look mapP_ok h hq
set_option maxHeartbeats 1600000 in
theorem find_any {X G M c : Nat} {l : List Ct} (hl : l.length ≤ 4096) (q : ByteArray) (hq : TxOk q) (w : World) (h : Co w X l G M c) : Calls Try.prog 20 #[.pointer (some ⟨X, 0, none⟩), .string q] w fun e w' => e = .returned (.pointer (if hasC l q = true then some ⟨G, placeC l q * 2 + 1, none⟩ else none)) ∧ w' = w := by
  obtain ⟨x0, x1⟩ := cells2 h.x
  have hlk := look2_P h.m hq
  unfold plcG at hlk
  unfold hasC
  clear h hq
  generalize placeC l q = p at *
  generalize l.length = n at *
  by_cases hp : p < n
  · rw [if_pos hp] at hlk
    have hlk2 : (Instr.lookup 50 (.map (some M)) (.string q) true).run Try.prog w = .ok (.tuple #[.int .i64 (p : Int), .bool true]) w := hlk
    clear hlk
    rw [decide_eq_true hp, if_pos rfl]
    go_enter Try.func20, Try.ntmps20
    go_wp2_with fail
    go_ret
    exact ⟨rfl, rfl⟩
  · rw [if_neg hp] at hlk
    have hlk2 : (Instr.lookup 50 (.map (some M)) (.string q) true).run Try.prog w = .ok (.tuple #[.int .i64 0, .bool false]) w := hlk
    clear hlk
    rw [decide_eq_false hp, if_neg (by decide)]
    go_enter Try.func20, Try.ntmps20
    go_wp2_with fail
    go_ret
    exact ⟨rfl, rfl⟩
theorem find_nil (q : ByteArray) (w : World) : Calls Try.prog 20 #[.pointer none, .string q] w fun e w' => e = .returned (.pointer none) ∧ w' = w := by
  go_enter Try.func20, Try.ntmps20
  go_wp2_with fail
  go_ret
  exact ⟨rfl, rfl⟩
/- The contract of Get. -/
theorem get_any {X G M c : Nat} {l : List Ct} (hl : l.length ≤ 4096) (q : ByteArray) (hq : TxOk q) (w : World) (h : Co w X l G M c) : Calls Try.prog 14 #[.pointer (some ⟨X, 0, none⟩), .string q] w fun e w' => e = .returned (.int .u64 (getC l q)) ∧ w' = w := by
  have hf := find_any hl q hq w h
  cases hh : hasC l q with
  | true =>
    rw [hh, if_pos rfl] at hf
    have hp : placeC l q < l.length := by unfold hasC at hh; simpa using hh
    obtain ⟨x, hx⟩ : ∃ x, l[placeC l q]? = some x := ⟨_, List.getElem?_eq_getElem hp⟩
    have hld := load_any G (placeC l q * 2 + 1) x.n w (og_C h.g hx).2
    have HG : Hid (getC l q = x.n) := hid (by unfold getC; rw [hx])
    clear h hh hp hx
    generalize placeC l q = p at *
    go_enter Try.func14, Try.ntmps14
    go_wp2_with fail
    refine hf.mono ?_
    rintro e w1 ⟨rfl, rfl⟩
    go_wp2_with fail
    refine hld.mono ?_
    rintro e w2 ⟨rfl, rfl⟩
    go_wp2_with fail
    go_ret
    exact ⟨by rw [HG.out]; rfl, rfl⟩
  | false =>
    rw [hh, if_neg (by decide)] at hf
    have HG : Hid (getC l q = 0) := hid (by
      unfold hasC at hh
      unfold getC
      rw [List.getElem?_eq_none (by simpa using hh)])
    clear h hh
    go_enter Try.func14, Try.ntmps14
    go_wp2_with fail
    refine hf.mono ?_
    rintro e w1 ⟨rfl, rfl⟩
    go_wp2_with fail
    go_ret
    exact ⟨by rw [HG.out]; rfl, rfl⟩
theorem get_nil_any (q : ByteArray) (w : World) : Calls Try.prog 14 #[.pointer none, .string q] w fun e w' => e = .returned (.int .u64 0) ∧ Kept w w' := by
  have hf := find_nil q w
  go_enter Try.func14, Try.ntmps14
  go_wp2_with fail
  refine hf.mono ?_
  rintro e w1 ⟨rfl, rfl⟩
  go_wp2_with fail
  go_ret
  exact ⟨rfl, kept_refl _⟩
/- The contract of Add. -/
set_option maxHeartbeats 1600000 in
theorem add_any {X G M c : Nat} {l : List Ct} (hl : l.length ≤ 4096) (ok : CtsOk l) (q : ByteArray) (hq : TxOk q) (n : Int) (hn : inU64 n) (w : World) (h : Co w X l G M c) : Calls Try.prog 13 #[.pointer (some ⟨X, 0, none⟩), .string q, .int .u64 n] w fun e w' => e = .returned (.bool (hasC l q)) ∧ Co w' X (addC l q n) G M c ∧ Turn G w w' := by
  have hf := find_any hl q hq w h
  cases hh : hasC l q with
  | true =>
    rw [hh, if_pos rfl] at hf
    have hp : placeC l q < l.length := by unfold hasC at hh; simpa using hh
    obtain ⟨x, hx⟩ : ∃ x, l[placeC l q]? = some x := ⟨_, List.getElem?_eq_getElem hp⟩
    have hok := ok x (List.mem_of_getElem? hx)
    have hc := (og_C h.g hx).2
    have hz := og_frozen h.g (placeC l q * 2 + 1)
    have hld := load_any G (placeC l q * 2 + 1) x.n w hc
    have hsm := sum_any x.n n ⟨hok.1, hok.2⟩ hn w
    have hcs := cas_any G (placeC l q * 2 + 1) x.n (moreC x.n n) w hc hz
    have HC : Hid (Co (w.setCell ⟨G, placeC l q * 2 + 1, none⟩ (.int .u64 (moreC x.n n))) X (addC l q n) G M c) := hid (by
      rw [add_at n hx rfl]
      exact co_put h hx _)
    have HT : Hid (Turn G w (w.setCell ⟨G, placeC l q * 2 + 1, none⟩ (.int .u64 (moreC x.n n)))) := hid (turn_set (Turn.refl G w) _ _)
    clear h hh hp hx hc hz ok hok hn hq
    generalize placeC l q = p at *
    generalize moreC x.n n = y at *
    go_enter Try.func13, Try.ntmps13
    go_wp2_with fail
    refine hf.mono ?_
    rintro e w1 ⟨rfl, rfl⟩
    clear hf
    go_wp2_with fail
    go_loopw [8] (fun v wr => wr = w1) (fun _ _ => 0)
    case atStart => exact rfl
    case round =>
      obtain rfl := hrel
      go_wp2_with fail
      refine hld.mono ?_
      rintro e w2 ⟨rfl, rfl⟩
      go_wp2_with fail
      refine hsm.mono ?_
      rintro e w3 ⟨rfl, rfl⟩
      go_wp2_with fail
      refine hcs.mono ?_
      rintro e w4 ⟨rfl, rfl⟩
      go_wp2_with fail
      go_ret
      exact ⟨rfl, HC.out, HT.out⟩
  | false =>
    rw [hh, if_neg (by decide)] at hf
    have HC : Hid (Co w X (addC l q n) G M c) := hid (by
      unfold hasC at hh
      have := place_le l q
      rw [add_off n (by have : ¬ placeC l q < l.length := by simpa using hh
                        omega)]
      exact h)
    clear h hh ok
    go_enter Try.func13, Try.ntmps13
    go_wp2_with fail
    refine hf.mono ?_
    rintro e w1 ⟨rfl, rfl⟩
    clear hf
    go_wp2_with fail
    go_ret
    exact ⟨rfl, HC.out, Turn.refl G _⟩
theorem add_nil_any (q : ByteArray) (n : Int) (w : World) : Calls Try.prog 13 #[.pointer none, .string q, .int .u64 n] w fun e w' => e = .returned (.bool false) ∧ Kept w w' := by
  have hf := find_nil q w
  go_enter Try.func13, Try.ntmps13
  go_wp2_with fail
  refine hf.mono ?_
  rintro e w1 ⟨rfl, rfl⟩
  go_wp2_with fail
  go_ret
  exact ⟨rfl, kept_refl _⟩
end Go.Proofs.Ytibidhmahjbciaa
