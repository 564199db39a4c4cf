/- The contract of the landed read: the message, or the zero one and the error. The bytes are at most 2^47. -/
import Derived.Test.YtioeidhblbfgmaaGreatY43
import Derived.Test.YtioeidhblbfgmaaGreatY44
import Derived.Defers

namespace Go.Proofs.YtioeidhblbfgmaaGreat
open Go.ChangeShapes Go.WideShapes Go.ChangeAt Go.RowKit
set_option linter.unusedVariables false
set_option linter.unusedSimpArgs false
set_option maxRecDepth 100000

def RdF (k f t : Int) (s : ByteArray) (w : World) (e : Ending) (w' : World) : Prop :=
  ∃ vn vk vr vs vd, e = .returned (.tuple #[msgV (readM k f t s).1 vn vk vr vs vd, .int .i64 ((readM k f t s).2 : Int)]) ∧ MsO w' w.heap.size vn vk vr vs vd (readM k f t s).1 ∧ Kept w w'
theorem msgOf_as (k f t : Int) (s : ByteArray) : msgOf k f t s = ⟨k, f, t, (msgOf 0 0 0 s).id, (msgOf 0 0 0 s).tgt, (msgOf 0 0 0 s).rng, (msgOf 0 0 0 s).flag, (msgOf 0 0 0 s).news, (msgOf 0 0 0 s).keys, (msgOf 0 0 0 s).recs, (msgOf 0 0 0 s).seen, (msgOf 0 0 0 s).digs⟩ := by simp only [msgOf]
theorem readM_as {k f t : Int} {s : ByteArray} {xG : List Int} {p9 : Int} {f9 : Nat} (h : rG s = (xG, (p9, f9))) : readM k f t s = if f9 ≠ 0 then (zeroM, f9) else if p9 ≠ (s.size : Int) then (zeroM, 3) else (msgOf k f t s, 0) := by
  unfold readM
  rw [h]
theorem resRd {fn : Func} {p q : Tmp} (h : fn.results = #[.cell p 29, .cell q 32]) (tmps : Array Value) {w : World} {M E U V : Nat} {cs : Array Value} {x : Int} (hp : tmps.getD p undef = .pointer (some ⟨M, 0, none⟩)) (hq : tmps.getD q undef = .pointer (some ⟨E, 0, none⟩)) (hM : At w M cs U) (h12 : cs.size = 12) (hE : At w E #[.int .i64 x] V) : (results fn tmps).run Tryz.prog w = .ok (.tuple #[.agg cs, .int .i64 x]) w := by
  have hp' : tmps[p]?.getD undef = .pointer (some ⟨M, 0, none⟩) := by simpa using hp
  have hq' : tmps[q]?.getD undef = .pointer (some ⟨E, 0, none⟩) := by simpa using hq
  have h1 := loadW strM hM h12
  have c0 : w.cell? ⟨E, 0, none⟩ = some (.int .i64 x) := at_cell hE 0
  have h2 : (loadVar 32 ⟨E, 0, none⟩).run Tryz.prog w = .ok (.int .i64 x) w := by simp [go_sem, loadVar, c0]
  simp [results, h, asAddr, Sem.run_bind, Sem.run_pure, Result.andThen, hp', hq', h1, h2]
theorem mso_low {w : World} {B B' : Nat} {vn vk vr vs vd : Value} {m m2 : Ms} (h : MsO w B vn vk vr vs vd m) (hb : B' ≤ B) (e1 : m2.news = m.news) (e2 : m2.keys = m.keys) (e3 : m2.recs = m.recs) (e4 : m2.seen = m.seen) (e5 : m2.digs = m.digs) : MsO w B' vn vk vr vs vd m2 :=
  ⟨by rw [e1]; exact og_low h.n hb, by rw [e2]; exact og_low h.k hb, by rw [e3]; exact og_low h.r hb, by rw [e4]; exact og_low h.s hb, by rw [e5]; exact og_low h.d hb⟩
theorem mso_zero (w : World) (B : Nat) : MsO w B (.slice none 0 0) (.slice none 0 0) (.slice none 0 0) (.slice none 0 0) (.slice none 0 0) zeroM := ⟨og_nil _ _ _ _ _, og_nil _ _ _ _ _, og_nil _ _ _ _ _, og_nil _ _ _ _ _, og_nil _ _ _ _ _⟩
theorem frm3 {w : World} {A U : Nat} {a b c d : Value} (h : At w A #[a, b, c, d] U) : w.cell? ⟨A, 0, none⟩ = some a ∧ w.cell? ⟨A, 1, none⟩ = some b ∧ w.cell? ⟨A, 2, none⟩ = some c := ⟨at_cell h 0, at_cell h 1, at_cell h 2⟩
/- What a panic meets in memory, and in the frame. -/
structure ReadOut (M E : Nat) (W u : World) : Prop where
  m : ∃ cs, At u M cs 29 ∧ cs.size = 12
  e : ∃ v, At u E #[v] 32
  k : Kept W u
  hm : W.heap.size ≤ M
  he : W.heap.size ≤ E
def PanicAt (M E : Nat) (fl : List PanicEntry) (a : Act) : Prop :=
  a.tmps.getD 2 undef = .pointer (some ⟨M, 0, none⟩) ∧ a.tmps.getD 3 undef = .pointer (some ⟨E, 0, none⟩) ∧ a.defers = [{ target := .fn (.func 72) #[.pointer (some ⟨M, 0, none⟩), .pointer (some ⟨E, 0, none⟩)], args := #[] }]
theorem read_out {k f t : Int} {s : ByteArray} {fl M E : Nat} {W u : World} {a : Act} (hr : readM k f t s = (zeroM, fl)) (hn : M ≠ E) (h : ReadOut M E W u) (ha : PanicAt M E (fault fl) a) : bodyPostD Tryz.prog Tryz.f25 (RdF k f t s W) (.panic (fault fl)) a u := by
  obtain ⟨⟨cs, h1, h12⟩, ⟨v, h2⟩, hk, hm, he⟩ := h
  obtain ⟨a2, a3, ad⟩ := ha
  show Leaves Tryz.prog Tryz.f25 a.tmps (RdF k f t s W) a.defers (.panicking (fault fl)) u
  rw [ad]
  refine leaves_cons (f := 72) (args := #[.pointer (some ⟨M, 0, none⟩), .pointer (some ⟨E, 0, none⟩)]) (by simp) (by simp [go_sem]) ?_
  refine (catch_fault M E fl u cs v h1 h12 h2 hn).mono ?_
  rintro e u' w' ⟨rfl, rfl, h4, h5, h6⟩
  show Leaves Tryz.prog Tryz.f25 a.tmps (RdF k f t s W) [] .returning w'
  refine ⟨_, resRd Tryz.results25 _ a2 a3 h4 rfl h5, .slice none 0 0, .slice none 0 0, .slice none 0 0, .slice none 0 0, .slice none 0 0, ?_, ?_, kept_tn h6 hk (fun b hb => by rcases hb with rfl | rfl <;> omega)⟩
  · rw [hr]; rfl
  · rw [hr]; exact mso_zero _ _
/- A region whose panic bears one of C, in a world of U, with a frame of G. -/
def Weak (C : List PanicEntry → Prop) (U : World → Prop) (G : Act → Prop) (Q : Exit → Act → World → Prop) : Exit → Act → World → Prop
  | .panic c, a, w => C c ∧ U w ∧ G a
  | e, a, w => Q e a w
theorem wp_region_weak {P : Program} {id : Nat} {ops : Array Oper} {b : Bool} {Q : Exit → Act → World → Prop} {a : Act} {w : World} {C : List PanicEntry → Prop} {U : World → Prop} {G : Act → Prop} (h : (Code.region id ops b).wp P (Weak C U G Q) a w) (hq : ∀ a c w, C c → U w → G a → Q (.panic c) a w) : (Code.region id ops b).wp P Q a w :=
  Code.wp_mono (fun e a w h => by
    cases e
    case panic c => exact hq a c w h.1 h.2.1 h.2.2
    all_goals exact h) h
theorem panicAt_put {M E d : Nat} {fl : List PanicEntry} {a : Act} {v : Value} (h2 : d ≠ 2) (h3 : d ≠ 3) (h : PanicAt M E fl (a.put (some d) v)) : PanicAt M E fl a := by
  obtain ⟨x2, x3, xd⟩ := h
  refine ⟨?_, ?_, xd⟩
  · rw [← x2]; simp [Act.put, Array.getD_eq_getD_getElem?, Array.getElem?_setIfInBounds_ne h2]
  · rw [← x3]; simp [Act.put, Array.getD_eq_getD_getElem?, Array.getElem?_setIfInBounds_ne h3]
theorem weak_put {M E d : Nat} {fl : List PanicEntry} {C : List PanicEntry → Prop} {U : World → Prop} {Q : Exit → Act → World → Prop} {v : Value} (h2 : d ≠ 2) (h3 : d ≠ 3) : ∀ (c : List PanicEntry) (a : Act) (w : World), Weak C U (fun a => PanicAt M E fl a) Q (.panic c) (a.put (some d) v) w → Weak C U (fun a => PanicAt M E fl a) Q (.panic c) a w :=
  fun c a w h => ⟨h.1, h.2.1, panicAt_put h2 h3 h.2.2⟩
set_option maxHeartbeats 12800000 in
theorem ldRead_any (k f t : Int) (s : ByteArray) (hs : s.size ≤ 140737488355328) (w : World) :
    Calls Tryz.prog 25 #[.agg #[.int .u8 k, .int .u8 f, .int .u8 t, .string s]] w (RdF k f t s w) := by
  have hmf : ∀ (fn : Fn) (first cap : Array Value) (w : World), (Instr.makeFunc fn first cap).run Tryz.prog w = .ok (.func fn first cap) w := fun _ _ _ _ => rfl
  have hz := zeroMv
  obtain ⟨xG, p9, f9, hG⟩ := trio (rG s)
  have HRM : Hid (readM k f t s = if f9 ≠ 0 then (zeroM, f9) else if p9 ≠ (s.size : Int) then (zeroM, 3) else (msgOf k f t s, 0)) := hid (readM_as hG)
  obtain ⟨mo, hmo⟩ : ∃ m, msgOf 0 0 0 s = m := ⟨_, rfl⟩
  have HMo : Hid (msgOf k f t s = ⟨k, f, t, mo.id, mo.tgt, mo.rng, mo.flag, mo.news, mo.keys, mo.recs, mo.seen, mo.digs⟩) := hid (by rw [← hmo]; exact msgOf_as k f t s)
  have hC := fun (X : Nat) (u : World) (h : In X s 0 u) => ldMsg_any s hs X u h
  unfold RdMs at hC
  rw [hG, hmo] at hC
  have HC := hid hC
  clear hC hG hmo hs
  have k4 := kept_alloc (kept_alloc (kept_alloc (kept_alloc (kept_refl w) (.cells #[.int .u8 k, .int .u8 f, .int .u8 t, .string s] 46)) (.cells #[.int .u8 0, .int .u8 0, .int .u8 0, .int .u32 0, .int .u8 0, .int .u8 0, .bool false, .slice none 0 0, .slice none 0 0, .slice none 0 0, .slice none 0 0, .slice none 0 0] 29)) (.cells #[.int .i64 0] 32)) (.cells #[.string s, .int .i64 0] 131)
  have aF := at_alloc (at_alloc (at_alloc (at_new w #[.int .u8 k, .int .u8 f, .int .u8 t, .string s] 46) (.cells #[.int .u8 0, .int .u8 0, .int .u8 0, .int .u32 0, .int .u8 0, .int .u8 0, .bool false, .slice none 0 0, .slice none 0 0, .slice none 0 0, .slice none 0 0, .slice none 0 0] 29)) (.cells #[.int .i64 0] 32)) (.cells #[.string s, .int .i64 0] 131)
  have aM := at_alloc (at_alloc (at_new (w.alloc (.cells #[.int .u8 k, .int .u8 f, .int .u8 t, .string s] 46)) #[.int .u8 0, .int .u8 0, .int .u8 0, .int .u32 0, .int .u8 0, .int .u8 0, .bool false, .slice none 0 0, .slice none 0 0, .slice none 0 0, .slice none 0 0, .slice none 0 0] 29) (.cells #[.int .i64 0] 32)) (.cells #[.string s, .int .i64 0] 131)
  have aE := at_alloc (at_new ((w.alloc (.cells #[.int .u8 k, .int .u8 f, .int .u8 t, .string s] 46)).alloc (.cells #[.int .u8 0, .int .u8 0, .int .u8 0, .int .u32 0, .int .u8 0, .int .u8 0, .bool false, .slice none 0 0, .slice none 0 0, .slice none 0 0, .slice none 0 0, .slice none 0 0] 29)) #[.int .i64 0] 32) (.cells #[.string s, .int .i64 0] 131)
  have aX := at_new (((w.alloc (.cells #[.int .u8 k, .int .u8 f, .int .u8 t, .string s] 46)).alloc (.cells #[.int .u8 0, .int .u8 0, .int .u8 0, .int .u32 0, .int .u8 0, .int .u8 0, .bool false, .slice none 0 0, .slice none 0 0, .slice none 0 0, .slice none 0 0, .slice none 0 0] 29)).alloc (.cells #[.int .i64 0] 32)) #[.string s, .int .i64 0] 131
  simp only [World.size_alloc] at aM aE aX
  have HK := hid k4
  have HF := hid aF
  have HM := hid aM
  have HE := hid aE
  have HX := hid aX
  clear k4 aF aM aE aX
  go_enter_defers Tryz.func25, Tryz.ntmps25
  go_wp2_with fail
  generalize (((w.alloc (.cells #[.int .u8 k, .int .u8 f, .int .u8 t, .string s] 46)).alloc (.cells #[.int .u8 0, .int .u8 0, .int .u8 0, .int .u32 0, .int .u8 0, .int .u8 0, .bool false, .slice none 0 0, .slice none 0 0, .slice none 0 0, .slice none 0 0, .slice none 0 0] 29)).alloc (.cells #[.int .i64 0] 32)).alloc (.cells #[.string s, .int .i64 0] 131) = w4 at *
  generalize hX : w.heap.size + 1 + 1 + 1 = X at *
  generalize hE : w.heap.size + 1 + 1 = E at *
  generalize hM : w.heap.size + 1 = M at *
  generalize hA : w.heap.size = A at *
  have HN : Hid (w.heap.size = A ∧ A + 1 = M ∧ M + 1 = E ∧ E + 1 = X) := hid ⟨hA, by omega, by omega, by omega⟩
  have HL : Hid (X < w4.heap.size) := hid (at_lt HX.out)
  clear hX hE hM hA
  refine (HC.out X w4 HX.out).mono ?_
  rintro e w5 (⟨h0, vn, vk, vr, vs, vd, rfl, hO, hI, hT⟩ | ⟨h0, rfl, hT⟩)
  · subst h0
    obtain ⟨a1, n1, c1, a2, n2, c2, a3, n3, c3, a4, n4, c4, a5, n5, c5, rfl, rfl, rfl, rfl, rfl⟩ := mso_is hO
    have N := HN.out
    have hM5 := at_turn HM.out hT (show M ≠ X by omega)
    have HM6 := hid (at_set12' hM5 (.int .u8 mo.kind) (.int .u8 mo.frm) (.int .u8 mo.dst) (.int .u32 mo.id) (.int .u8 mo.tgt) (.int .u8 mo.rng) (.bool mo.flag) (.slice a1 n1 c1) (.slice a2 n2 c2) (.slice a3 n3 c3) (.slice a4 n4 c4) (.slice a5 n5 c5))
    have HF6 := hid (at_out12 (at_turn HF.out hT (show A ≠ X by omega)) (show A ≠ M by omega) (.int .u8 mo.kind) (.int .u8 mo.frm) (.int .u8 mo.dst) (.int .u32 mo.id) (.int .u8 mo.tgt) (.int .u8 mo.rng) (.bool mo.flag) (.slice a1 n1 c1) (.slice a2 n2 c2) (.slice a3 n3 c3) (.slice a4 n4 c4) (.slice a5 n5 c5))
    have HE6 := hid (at_out12 (at_turn HE.out hT (show E ≠ X by omega)) (show E ≠ M by omega) (.int .u8 mo.kind) (.int .u8 mo.frm) (.int .u8 mo.dst) (.int .u32 mo.id) (.int .u8 mo.tgt) (.int .u8 mo.rng) (.bool mo.flag) (.slice a1 n1 c1) (.slice a2 n2 c2) (.slice a3 n3 c3) (.slice a4 n4 c4) (.slice a5 n5 c5))
    have HX6 := hid (at_out12 hI (show X ≠ M by omega) (.int .u8 mo.kind) (.int .u8 mo.frm) (.int .u8 mo.dst) (.int .u32 mo.id) (.int .u8 mo.tgt) (.int .u8 mo.rng) (.bool mo.flag) (.slice a1 n1 c1) (.slice a2 n2 c2) (.slice a3 n3 c3) (.slice a4 n4 c4) (.slice a5 n5 c5))
    have HO6 := hid (mso_tn hO (tn_set12 w5 M (.int .u8 mo.kind) (.int .u8 mo.frm) (.int .u8 mo.dst) (.int .u32 mo.id) (.int .u8 mo.tgt) (.int .u8 mo.rng) (.bool mo.flag) (.slice a1 n1 c1) (.slice a2 n2 c2) (.slice a3 n3 c3) (.slice a4 n4 c4) (.slice a5 n5 c5)) (fun b hb => by have := HL.out; omega))
    have HK6 := hid (kept_set12 (kept_tn (tn_turn hT) HK.out (fun b hb => by omega)) (show w.heap.size ≤ M by omega) (.int .u8 mo.kind) (.int .u8 mo.frm) (.int .u8 mo.dst) (.int .u32 mo.id) (.int .u8 mo.tgt) (.int .u8 mo.rng) (.bool mo.flag) (.slice a1 n1 c1) (.slice a2 n2 c2) (.slice a3 n3 c3) (.slice a4 n4 c4) (.slice a5 n5 c5))
    obtain ⟨⟨m0, m1, m2, m3, m4, m5, m6, m7, m8, m9, ma, mb⟩, mf⟩ := cells12 hM5
    unfold set12 at HM6 HF6 HE6 HX6 HO6 HK6
    unfold msgV
    clear hO hI hT hM5 HK HF HM HE HX HC N
    go_wp2_with fail
    clear m0 m1 m2 m3 m4 m5 m6 m7 m8 m9 ma mb mf
    generalize (((((((((((w5.setCell ⟨M, 0, none⟩ (.int .u8 mo.kind)).setCell ⟨M, 1, none⟩ (.int .u8 mo.frm)).setCell ⟨M, 2, none⟩ (.int .u8 mo.dst)).setCell ⟨M, 3, none⟩ (.int .u32 mo.id)).setCell ⟨M, 4, none⟩ (.int .u8 mo.tgt)).setCell ⟨M, 5, none⟩ (.int .u8 mo.rng)).setCell ⟨M, 6, none⟩ (.bool mo.flag)).setCell ⟨M, 7, none⟩ (.slice a1 n1 c1)).setCell ⟨M, 8, none⟩ (.slice a2 n2 c2)).setCell ⟨M, 9, none⟩ (.slice a3 n3 c3)).setCell ⟨M, 10, none⟩ (.slice a4 n4 c4)).setCell ⟨M, 11, none⟩ (.slice a5 n5 c5) = w6 at *
    have hS6 := in2 HX6.out
    obtain ⟨x0, x1⟩ := hS6
    by_cases hq : p9 = (s.size : Int)
    · have HE9 : Hid (readM k f t s = (⟨k, f, t, mo.id, mo.tgt, mo.rng, mo.flag, mo.news, mo.keys, mo.recs, mo.seen, mo.digs⟩, 0)) := hid (by rw [HRM.out, if_neg (show ¬ (0 : Nat) ≠ 0 from fun h => h rfl), if_neg (show ¬ p9 ≠ (s.size : Int) from fun h => h hq), HMo.out])
      subst hq
      clear HRM HMo
      refine wp_region_noPanic ?_
      refine wp_region_held_drew (S := (fun w' => (w'.cell? ⟨X, 0, none⟩ = some (.string s)) ∧ (w'.cell? ⟨X, 1, none⟩ = some (.int .i64 (s.size : Int))))) (by kernel_rfl) (in2 (show In X s _ w6.drew from HX6.out)) (fun hHeld => ?_)
      refine wpAnyH_take (i := 0) (v := .pointer (some ⟨X, 0, none⟩)) rfl (by kernel_rfl) (by kernel_rfl) (by kernel_rfl) (fun _ _ _ h => h) (Or.inl ⟨by rfl, fun w hSw => by (try dsimp only at hSw); go_simp⟩) (by assumption) ?_
      try simp only [List.getElem_toArray, List.getElem_cons_zero, List.getElem_cons_succ, Act.put, List.setIfInBounds_toArray, List.set_cons_zero, List.set_cons_succ]
      refine wpAnyH_take (i := 1) (v := .pointer (some ⟨X, 0, none⟩)) rfl (by kernel_rfl) (by kernel_rfl) (by kernel_rfl) (fun _ _ _ h => h) (Or.inl ⟨by rfl, fun w hSw => by (try dsimp only at hSw); go_simp⟩) (by assumption) ?_
      try simp only [List.getElem_toArray, List.getElem_cons_zero, List.getElem_cons_succ, Act.put, List.setIfInBounds_toArray, List.set_cons_zero, List.set_cons_succ]
      refine wpAnyH_take (i := 2) (v := .pointer (some ⟨X, 0, none⟩)) rfl (by kernel_rfl) (by kernel_rfl) (by kernel_rfl) (fun _ _ _ h => h) (Or.inl ⟨by rfl, fun w hSw => by (try dsimp only at hSw); go_simp⟩) (by assumption) ?_
      try simp only [List.getElem_toArray, List.getElem_cons_zero, List.getElem_cons_succ, Act.put, List.setIfInBounds_toArray, List.set_cons_zero, List.set_cons_succ]
      refine wpAnyH_take (i := 3) (v := .pointer (some ⟨X, 1, none⟩)) rfl (by kernel_rfl) (by kernel_rfl) (by kernel_rfl) (fun _ _ _ h => h) (Or.inl ⟨by rfl, fun w hSw => by (try dsimp only at hSw); go_simp⟩) (by assumption) ?_
      try simp only [List.getElem_toArray, List.getElem_cons_zero, List.getElem_cons_succ, Act.put, List.setIfInBounds_toArray, List.set_cons_zero, List.set_cons_succ]
      refine wpAnyH_take (i := 4) (v := .int .i64 (s.size : Int)) rfl (by kernel_rfl) (by kernel_rfl) (by kernel_rfl) (fun _ _ _ h => h) (Or.inl ⟨by rfl, fun w hSw => by (try dsimp only at hSw); go_simp⟩) (by assumption) ?_
      try simp only [List.getElem_toArray, List.getElem_cons_zero, List.getElem_cons_succ, Act.put, List.setIfInBounds_toArray, List.set_cons_zero, List.set_cons_succ]
      refine wpAnyH_take (i := 5) (v := .pointer (some ⟨X, 0, none⟩)) rfl (by kernel_rfl) (by kernel_rfl) (by kernel_rfl) (fun _ _ _ h => h) (Or.inl ⟨by rfl, fun w hSw => by (try dsimp only at hSw); go_simp⟩) (by assumption) ?_
      try simp only [List.getElem_toArray, List.getElem_cons_zero, List.getElem_cons_succ, Act.put, List.setIfInBounds_toArray, List.set_cons_zero, List.set_cons_succ]
      refine wpAnyH_take (i := 6) (v := .pointer (some ⟨X, 0, none⟩)) rfl (by kernel_rfl) (by kernel_rfl) (by kernel_rfl) (fun _ _ _ h => h) (Or.inl ⟨by rfl, fun w hSw => by (try dsimp only at hSw); go_simp⟩) (by assumption) ?_
      try simp only [List.getElem_toArray, List.getElem_cons_zero, List.getElem_cons_succ, Act.put, List.setIfInBounds_toArray, List.set_cons_zero, List.set_cons_succ]
      refine wpAnyH_take (i := 7) (v := .pointer (some ⟨X, 0, none⟩)) rfl (by kernel_rfl) (by kernel_rfl) (by kernel_rfl) (fun _ _ _ h => h) (Or.inl ⟨by rfl, fun w hSw => by (try dsimp only at hSw); go_simp⟩) (by assumption) ?_
      try simp only [List.getElem_toArray, List.getElem_cons_zero, List.getElem_cons_succ, Act.put, List.setIfInBounds_toArray, List.set_cons_zero, List.set_cons_succ]
      refine wpAnyH_take (i := 8) (v := .string s) rfl (by kernel_rfl) (by kernel_rfl) (by kernel_rfl) (fun _ _ _ h => h) (Or.inl ⟨by rfl, fun w hSw => by (try dsimp only at hSw); go_simp⟩) (by assumption) ?_
      try simp only [List.getElem_toArray, List.getElem_cons_zero, List.getElem_cons_succ, Act.put, List.setIfInBounds_toArray, List.set_cons_zero, List.set_cons_succ]
      refine wpAnyH_take (i := 9) (v := .int .i64 (s.size : Int)) rfl (by kernel_rfl) (by kernel_rfl) (by kernel_rfl) (fun _ _ _ h => h) (Or.inl ⟨by rfl, fun w hSw => by (try dsimp only at hSw); go_simp⟩) (by assumption) ?_
      try simp only [List.getElem_toArray, List.getElem_cons_zero, List.getElem_cons_succ, Act.put, List.setIfInBounds_toArray, List.set_cons_zero, List.set_cons_succ]
      refine wpAnyH_take (i := 10) (v := .bool true) rfl (by kernel_rfl) (by kernel_rfl) (by kernel_rfl) (fun _ _ _ h => h) (Or.inl ⟨by rfl, fun w hSw => by (try dsimp only at hSw); go_simp⟩) (by assumption) ?_
      try simp only [List.getElem_toArray, List.getElem_cons_zero, List.getElem_cons_succ, Act.put, List.setIfInBounds_toArray, List.set_cons_zero, List.set_cons_succ]
      refine wpAnyH_ready (rs := [11]) (by kernel_rfl) (by simp) ?_
      refine AllReadyH.cons (i := 11) rfl (fun K hK => ?_) AllReadyH.nil
      go_simp
      refine (need_yes _ _).mono ?_
      rintro e w3 ⟨rfl, rfl⟩
      clear hHeld
      show K _ _
      refine hK.out _ _ (in2 (show In X s _ w6.drew from HX6.out)) (fun hHeld => ?_)
      clear hK K
      try simp only [List.getElem_toArray, List.getElem_cons_zero, List.getElem_cons_succ, Act.put, List.setIfInBounds_toArray, List.set_cons_zero, List.set_cons_succ]
      refine wpAnyH_done (by kernel_rfl) ?_ _
      refine NoPanic.normal ?_
      clear hHeld x0 x1
      have HF7 : Hid (At w6.drew A #[.int .u8 k, .int .u8 f, .int .u8 t, .string s] 46) := HF6
      have HM7 : Hid (At w6.drew M #[.int .u8 mo.kind, .int .u8 mo.frm, .int .u8 mo.dst, .int .u32 mo.id, .int .u8 mo.tgt, .int .u8 mo.rng, .bool mo.flag, .slice a1 n1 c1, .slice a2 n2 c2, .slice a3 n3 c3, .slice a4 n4 c4, .slice a5 n5 c5] 29) := HM6
      have HE7 : Hid (At w6.drew E #[.int .i64 0] 32) := HE6
      have HO7 := hid (mso_kept HO6.out (kept_drew (kept_refl w6)))
      have HK7 : Hid (Kept w w6.drew) := hid (kept_drew HK6.out)
      have HL7 : Hid (X < w4.heap.size) := HL
      generalize w6.drew = w7 at *
      clear HF6 HM6 HE6 HO6 HK6 HX6
      have hF7 := HF7.out
      obtain ⟨y0, y1, y2, y3, yf⟩ := at_cells4 hF7
      clear hF7
      go_wp2_with fail
      clear y0 y1 y2 y3 yf
      refine wp_region_noPanic ?_
      refine wp_region_held_drew (S := (fun w' => (w'.cell? ⟨A, 0, none⟩ = some (.int .u8 k)) ∧ (w'.cell? ⟨A, 1, none⟩ = some (.int .u8 f)) ∧ (w'.cell? ⟨A, 2, none⟩ = some (.int .u8 t)))) (by kernel_rfl) (frm3 (show At w7.drew A #[.int .u8 k, .int .u8 f, .int .u8 t, .string s] 46 from HF7.out)) (fun hHeld => ?_)
      generalize hw8 : w7.drew = w8 at *
      replace HM7 : Hid (At w8 M #[.int .u8 mo.kind, .int .u8 mo.frm, .int .u8 mo.dst, .int .u32 mo.id, .int .u8 mo.tgt, .int .u8 mo.rng, .bool mo.flag, .slice a1 n1 c1, .slice a2 n2 c2, .slice a3 n3 c3, .slice a4 n4 c4, .slice a5 n5 c5] 29) := by rw [← hw8]; exact HM7
      replace HF7 : Hid (At w8 A #[.int .u8 k, .int .u8 f, .int .u8 t, .string s] 46) := by rw [← hw8]; exact HF7
      replace HE7 : Hid (At w8 E #[.int .i64 0] 32) := by rw [← hw8]; exact HE7
      have HO7w := hid (mso_kept HO7.out (kept_drew (kept_refl w7)))
      rw [hw8] at HO7w
      clear HO7
      have HO7 := HO7w
      replace HK7 : Hid (Kept w w8) := by rw [← hw8]; exact HK7
      clear hw8 HO7w
      refine wpAnyH_take (i := 0) (v := .pointer (some ⟨A, 0, none⟩)) rfl (by kernel_rfl) (by kernel_rfl) (by kernel_rfl) (fun _ _ _ h => h) (Or.inl ⟨by rfl, fun w hSw => by (try dsimp only at hSw); go_simp⟩) (by assumption) ?_
      try simp only [List.getElem_toArray, List.getElem_cons_zero, List.getElem_cons_succ, Act.put, List.setIfInBounds_toArray, List.set_cons_zero, List.set_cons_succ]
      refine wpAnyH_take (i := 1) (v := .int .u8 k) rfl (by kernel_rfl) (by kernel_rfl) (by kernel_rfl) (fun _ _ _ h => h) (Or.inl ⟨by rfl, fun w hSw => by (try dsimp only at hSw); go_simp⟩) (by assumption) ?_
      try simp only [List.getElem_toArray, List.getElem_cons_zero, List.getElem_cons_succ, Act.put, List.setIfInBounds_toArray, List.set_cons_zero, List.set_cons_succ]
      refine wpAnyH_take (i := 2) (v := .pointer (some ⟨A, 1, none⟩)) rfl (by kernel_rfl) (by kernel_rfl) (by kernel_rfl) (fun _ _ _ h => h) (Or.inl ⟨by rfl, fun w hSw => by (try dsimp only at hSw); go_simp⟩) (by assumption) ?_
      try simp only [List.getElem_toArray, List.getElem_cons_zero, List.getElem_cons_succ, Act.put, List.setIfInBounds_toArray, List.set_cons_zero, List.set_cons_succ]
      refine wpAnyH_take (i := 3) (v := .int .u8 f) rfl (by kernel_rfl) (by kernel_rfl) (by kernel_rfl) (fun _ _ _ h => h) (Or.inl ⟨by rfl, fun w hSw => by (try dsimp only at hSw); go_simp⟩) (by assumption) ?_
      try simp only [List.getElem_toArray, List.getElem_cons_zero, List.getElem_cons_succ, Act.put, List.setIfInBounds_toArray, List.set_cons_zero, List.set_cons_succ]
      refine wpAnyH_take (i := 4) (v := .pointer (some ⟨A, 2, none⟩)) rfl (by kernel_rfl) (by kernel_rfl) (by kernel_rfl) (fun _ _ _ h => h) (Or.inl ⟨by rfl, fun w hSw => by (try dsimp only at hSw); go_simp⟩) (by assumption) ?_
      try simp only [List.getElem_toArray, List.getElem_cons_zero, List.getElem_cons_succ, Act.put, List.setIfInBounds_toArray, List.set_cons_zero, List.set_cons_succ]
      refine wpAnyH_take (i := 5) (v := .int .u8 t) rfl (by kernel_rfl) (by kernel_rfl) (by kernel_rfl) (fun _ _ _ h => h) (Or.inl ⟨by rfl, fun w hSw => by (try dsimp only at hSw); go_simp⟩) (by assumption) ?_
      try simp only [List.getElem_toArray, List.getElem_cons_zero, List.getElem_cons_succ, Act.put, List.setIfInBounds_toArray, List.set_cons_zero, List.set_cons_succ]
      refine wpAnyH_take (i := 6) (v := .pointer (some ⟨M, 0, none⟩)) rfl (by kernel_rfl) (by kernel_rfl) (by kernel_rfl) (fun _ _ _ h => h) (Or.inl ⟨by rfl, fun w hSw => by (try dsimp only at hSw); go_simp⟩) (by assumption) ?_
      try simp only [List.getElem_toArray, List.getElem_cons_zero, List.getElem_cons_succ, Act.put, List.setIfInBounds_toArray, List.set_cons_zero, List.set_cons_succ]
      refine wpAnyH_ready (rs := [7]) (by kernel_rfl) (by simp) ?_
      refine AllReadyH.cons (i := 7) rfl (fun K hK => ?_) AllReadyH.nil
      obtain ⟨⟨m0, m1, m2, m3, m4, m5, m6, m7, m8, m9, ma, mb⟩, mf⟩ := cells12 HM7.out
      go_simp
      clear m0 m1 m2 m3 m4 m5 m6 m7 m8 m9 ma mb mf
      have HM81 : Hid (At (w8.setCell ⟨M, 0, none⟩ (.int .u8 k)) M #[.int .u8 k, .int .u8 mo.frm, .int .u8 mo.dst, .int .u32 mo.id, .int .u8 mo.tgt, .int .u8 mo.rng, .bool mo.flag, .slice a1 n1 c1, .slice a2 n2 c2, .slice a3 n3 c3, .slice a4 n4 c4, .slice a5 n5 c5] 29) := hid (at_set HM7.out 0 (.int .u8 k))
      have HF81 := hid (at_other HF7.out (show A ≠ M by have := HN.out; omega) 0 (.int .u8 k))
      have HE81 := hid (at_other HE7.out (show E ≠ M by have := HN.out; omega) 0 (.int .u8 k))
      have HO81 := hid (mso_tn HO7.out (tn_set w8 M 0 (.int .u8 k)) (fun b hb => by have := HL.out; have := HN.out; omega))
      have HK81 := hid (kept_set HK7.out (show w.heap.size ≤ M by have := HN.out; omega) 0 (.int .u8 k))
      show K _ (w8.setCell ⟨M, 0, none⟩ (.int .u8 k))
      generalize w8.setCell ⟨M, 0, none⟩ (.int .u8 k) = v1 at *
      clear hHeld
      show K _ _
      refine hK.out _ _ (frm3 HF81.out) (fun hHeld => ?_)
      clear hK K
      try simp only [List.getElem_toArray, List.getElem_cons_zero, List.getElem_cons_succ, Act.put, List.setIfInBounds_toArray, List.set_cons_zero, List.set_cons_succ]
      refine wpAnyH_take (i := 8) (v := .pointer (some ⟨M, 1, none⟩)) rfl (by kernel_rfl) (by kernel_rfl) (by kernel_rfl) (fun _ _ _ h => h) (Or.inl ⟨by rfl, fun w hSw => by (try dsimp only at hSw); go_simp⟩) (by assumption) ?_
      try simp only [List.getElem_toArray, List.getElem_cons_zero, List.getElem_cons_succ, Act.put, List.setIfInBounds_toArray, List.set_cons_zero, List.set_cons_succ]
      refine wpAnyH_ready (rs := [9]) (by kernel_rfl) (by simp) ?_
      refine AllReadyH.cons (i := 9) rfl (fun K hK => ?_) AllReadyH.nil
      obtain ⟨⟨m0, m1, m2, m3, m4, m5, m6, m7, m8, m9, ma, mb⟩, mf⟩ := cells12 HM81.out
      go_simp
      clear m0 m1 m2 m3 m4 m5 m6 m7 m8 m9 ma mb mf
      have HM82 : Hid (At (v1.setCell ⟨M, 1, none⟩ (.int .u8 f)) M #[.int .u8 k, .int .u8 f, .int .u8 mo.dst, .int .u32 mo.id, .int .u8 mo.tgt, .int .u8 mo.rng, .bool mo.flag, .slice a1 n1 c1, .slice a2 n2 c2, .slice a3 n3 c3, .slice a4 n4 c4, .slice a5 n5 c5] 29) := hid (at_set HM81.out 1 (.int .u8 f))
      have HF82 := hid (at_other HF81.out (show A ≠ M by have := HN.out; omega) 1 (.int .u8 f))
      have HE82 := hid (at_other HE81.out (show E ≠ M by have := HN.out; omega) 1 (.int .u8 f))
      have HO82 := hid (mso_tn HO81.out (tn_set v1 M 1 (.int .u8 f)) (fun b hb => by have := HL.out; have := HN.out; omega))
      have HK82 := hid (kept_set HK81.out (show w.heap.size ≤ M by have := HN.out; omega) 1 (.int .u8 f))
      show K _ (v1.setCell ⟨M, 1, none⟩ (.int .u8 f))
      generalize v1.setCell ⟨M, 1, none⟩ (.int .u8 f) = v2 at *
      clear hHeld
      show K _ _
      refine hK.out _ _ (frm3 HF82.out) (fun hHeld => ?_)
      clear hK K
      try simp only [List.getElem_toArray, List.getElem_cons_zero, List.getElem_cons_succ, Act.put, List.setIfInBounds_toArray, List.set_cons_zero, List.set_cons_succ]
      refine wpAnyH_take (i := 10) (v := .pointer (some ⟨M, 2, none⟩)) rfl (by kernel_rfl) (by kernel_rfl) (by kernel_rfl) (fun _ _ _ h => h) (Or.inl ⟨by rfl, fun w hSw => by (try dsimp only at hSw); go_simp⟩) (by assumption) ?_
      try simp only [List.getElem_toArray, List.getElem_cons_zero, List.getElem_cons_succ, Act.put, List.setIfInBounds_toArray, List.set_cons_zero, List.set_cons_succ]
      refine wpAnyH_ready (rs := [11]) (by kernel_rfl) (by simp) ?_
      refine AllReadyH.cons (i := 11) rfl (fun K hK => ?_) AllReadyH.nil
      obtain ⟨⟨m0, m1, m2, m3, m4, m5, m6, m7, m8, m9, ma, mb⟩, mf⟩ := cells12 HM82.out
      go_simp
      clear m0 m1 m2 m3 m4 m5 m6 m7 m8 m9 ma mb mf
      have HM83 : Hid (At (v2.setCell ⟨M, 2, none⟩ (.int .u8 t)) M #[.int .u8 k, .int .u8 f, .int .u8 t, .int .u32 mo.id, .int .u8 mo.tgt, .int .u8 mo.rng, .bool mo.flag, .slice a1 n1 c1, .slice a2 n2 c2, .slice a3 n3 c3, .slice a4 n4 c4, .slice a5 n5 c5] 29) := hid (at_set HM82.out 2 (.int .u8 t))
      have HF83 := hid (at_other HF82.out (show A ≠ M by have := HN.out; omega) 2 (.int .u8 t))
      have HE83 := hid (at_other HE82.out (show E ≠ M by have := HN.out; omega) 2 (.int .u8 t))
      have HO83 := hid (mso_tn HO82.out (tn_set v2 M 2 (.int .u8 t)) (fun b hb => by have := HL.out; have := HN.out; omega))
      have HK83 := hid (kept_set HK82.out (show w.heap.size ≤ M by have := HN.out; omega) 2 (.int .u8 t))
      show K _ (v2.setCell ⟨M, 2, none⟩ (.int .u8 t))
      generalize v2.setCell ⟨M, 2, none⟩ (.int .u8 t) = v3 at *
      clear hHeld
      show K _ _
      refine hK.out _ _ (frm3 HF83.out) (fun hHeld => ?_)
      clear hK K
      try simp only [List.getElem_toArray, List.getElem_cons_zero, List.getElem_cons_succ, Act.put, List.setIfInBounds_toArray, List.set_cons_zero, List.set_cons_succ]
      refine wpAnyH_done (by kernel_rfl) ?_ _
      refine NoPanic.normal ?_
      clear hHeld
      have HM9 := hid (at_other (at_set12' HM83.out (.int .u8 k) (.int .u8 f) (.int .u8 t) (.int .u32 mo.id) (.int .u8 mo.tgt) (.int .u8 mo.rng) (.bool mo.flag) (.slice a1 n1 c1) (.slice a2 n2 c2) (.slice a3 n3 c3) (.slice a4 n4 c4) (.slice a5 n5 c5)) (show M ≠ E by have := HN.out; omega) 0 (.int .i64 0))
      have HE8 := at_out12 HE83.out (show E ≠ M by have := HN.out; omega) (.int .u8 k) (.int .u8 f) (.int .u8 t) (.int .u32 mo.id) (.int .u8 mo.tgt) (.int .u8 mo.rng) (.bool mo.flag) (.slice a1 n1 c1) (.slice a2 n2 c2) (.slice a3 n3 c3) (.slice a4 n4 c4) (.slice a5 n5 c5)
      have HE9w : Hid (At ((set12 v3 M (.int .u8 k) (.int .u8 f) (.int .u8 t) (.int .u32 mo.id) (.int .u8 mo.tgt) (.int .u8 mo.rng) (.bool mo.flag) (.slice a1 n1 c1) (.slice a2 n2 c2) (.slice a3 n3 c3) (.slice a4 n4 c4) (.slice a5 n5 c5)).setCell ⟨E, 0, none⟩ (.int .i64 0)) E #[.int .i64 0] 32) := hid (at_set HE8 0 (.int .i64 0))
      have HO9 := hid (mso_tn (mso_tn HO83.out (tn_set12 v3 M (.int .u8 k) (.int .u8 f) (.int .u8 t) (.int .u32 mo.id) (.int .u8 mo.tgt) (.int .u8 mo.rng) (.bool mo.flag) (.slice a1 n1 c1) (.slice a2 n2 c2) (.slice a3 n3 c3) (.slice a4 n4 c4) (.slice a5 n5 c5)) (fun b hb => by have := HL.out; have := HN.out; omega)) (tn_set (set12 v3 M (.int .u8 k) (.int .u8 f) (.int .u8 t) (.int .u32 mo.id) (.int .u8 mo.tgt) (.int .u8 mo.rng) (.bool mo.flag) (.slice a1 n1 c1) (.slice a2 n2 c2) (.slice a3 n3 c3) (.slice a4 n4 c4) (.slice a5 n5 c5)) E 0 (.int .i64 0)) (fun b hb => by have := HL.out; have := HN.out; omega))
      have HK9 := hid (kept_set (kept_set12 HK83.out (show w.heap.size ≤ M by have := HN.out; omega) (.int .u8 k) (.int .u8 f) (.int .u8 t) (.int .u32 mo.id) (.int .u8 mo.tgt) (.int .u8 mo.rng) (.bool mo.flag) (.slice a1 n1 c1) (.slice a2 n2 c2) (.slice a3 n3 c3) (.slice a4 n4 c4) (.slice a5 n5 c5)) (show w.heap.size ≤ E by have := HN.out; omega) 0 (.int .i64 0))
      obtain ⟨⟨m0, m1, m2, m3, m4, m5, m6, m7, m8, m9, ma, mb⟩, mf⟩ := cells12 HM83.out
      have e0 : v3.cell? ⟨E, 0, none⟩ = some (.int .i64 0) := at_cell HE83.out 0
      have ef := at_frozen HE83.out
      have nME : M ≠ E := by have := HN.out; omega
      have nEM := Ne.symm nME
      unfold set12 at HM9 HE9w HO9 HK9
      clear HE8 HM81 HM82 HM83 HF81 HF82 HF83 HE81 HE82 HE83 HO81 HO82 HO83 HK81 HK82 HK83 HM7 HF7 HE7 HO7 HK7
      go_wp2_with fail
      clear m0 m1 m2 m3 m4 m5 m6 m7 m8 m9 ma mb mf e0 ef
      refine leaves_cons (f := 72) (args := #[.pointer (some ⟨M, 0, none⟩), .pointer (some ⟨E, 0, none⟩)]) (by simp) (by simp [go_sem]) ?_
      refine (catch_idle ⟨M, 0, none⟩ ⟨E, 0, none⟩ _).mono ?_
      rintro e u' w9 ⟨rfl, rfl, rfl⟩
      show Leaves Tryz.prog Tryz.f25 _ (RdF k f t s w) [] .returning _
      refine ⟨_, resRd Tryz.results25 _ rfl rfl HM9.out rfl HE9w.out, .slice a1 n1 c1, .slice a2 n2 c2, .slice a3 n3 c3, .slice a4 n4 c4, .slice a5 n5 c5, ?_, ?_, HK9.out⟩
      · rw [HE9.out]; rfl
      · rw [HE9.out]; exact mso_low (m := mo) (m2 := ⟨k, f, t, mo.id, mo.tgt, mo.rng, mo.flag, mo.news, mo.keys, mo.recs, mo.seen, mo.digs⟩) HO9.out (by have := HL.out; have := HN.out; omega) rfl rfl rfl rfl rfl
    · have HE9 : Hid (readM k f t s = (zeroM, 3)) := hid (by rw [HRM.out, if_neg (show ¬ (0 : Nat) ≠ 0 from fun h => h rfl), if_pos (show p9 ≠ (s.size : Int) from hq)])
      have hq1 : (p9 == (s.size : Int)) = false := by simpa using hq
      have hq2 : ¬ p9 = (s.size : Int) := hq
      clear HRM HMo hq
      have HQ : Hid (∀ (a : Act) (fl : List PanicEntry) (u : World), ReadOut M E w u → PanicAt M E fl a → fl = fault 3 → bodyPostD Tryz.prog Tryz.f25 (RdF k f t s w) (.panic fl) a u) := hid (fun a fl u hu ha hf => by rw [hf]; exact read_out HE9.out (by have := HN.out; omega) hu ha)
      have HU : Hid (ReadOut M E w w6.drew) := hid ⟨⟨_, HM6.out, rfl⟩, ⟨_, HE6.out⟩, kept_drew HK6.out, by have := HN.out; omega, by have := HN.out; omega⟩
      clear HM6 HE6 HO6 HK6 HF6
      refine wp_region_weak (C := fun c => c = fault 3) (U := fun u => u = w6.drew) (G := fun a => PanicAt M E (fault 3) a) ?_ (fun a c u hc hu hg => by subst hc hu; exact HQ.out _ _ _ HU.out hg rfl)
      refine wp_region_held_drew (S := (fun w' => (w'.cell? ⟨X, 0, none⟩ = some (.string s)) ∧ (w'.cell? ⟨X, 1, none⟩ = some (.int .i64 p9)))) (by kernel_rfl) (in2 (show In X s _ w6.drew from HX6.out)) (fun hHeld => ?_)
      refine wpAnyH_take (i := 0) (v := .pointer (some ⟨X, 0, none⟩)) rfl (by kernel_rfl) (by kernel_rfl) (by kernel_rfl) (weak_put (by decide) (by decide)) (Or.inl ⟨by rfl, fun w hSw => by (try dsimp only at hSw); go_simp⟩) (by assumption) ?_
      try simp only [List.getElem_toArray, List.getElem_cons_zero, List.getElem_cons_succ, Act.put, List.setIfInBounds_toArray, List.set_cons_zero, List.set_cons_succ]
      refine wpAnyH_take (i := 1) (v := .pointer (some ⟨X, 0, none⟩)) rfl (by kernel_rfl) (by kernel_rfl) (by kernel_rfl) (weak_put (by decide) (by decide)) (Or.inl ⟨by rfl, fun w hSw => by (try dsimp only at hSw); go_simp⟩) (by assumption) ?_
      try simp only [List.getElem_toArray, List.getElem_cons_zero, List.getElem_cons_succ, Act.put, List.setIfInBounds_toArray, List.set_cons_zero, List.set_cons_succ]
      refine wpAnyH_take (i := 2) (v := .pointer (some ⟨X, 0, none⟩)) rfl (by kernel_rfl) (by kernel_rfl) (by kernel_rfl) (weak_put (by decide) (by decide)) (Or.inl ⟨by rfl, fun w hSw => by (try dsimp only at hSw); go_simp⟩) (by assumption) ?_
      try simp only [List.getElem_toArray, List.getElem_cons_zero, List.getElem_cons_succ, Act.put, List.setIfInBounds_toArray, List.set_cons_zero, List.set_cons_succ]
      refine wpAnyH_take (i := 3) (v := .pointer (some ⟨X, 1, none⟩)) rfl (by kernel_rfl) (by kernel_rfl) (by kernel_rfl) (weak_put (by decide) (by decide)) (Or.inl ⟨by rfl, fun w hSw => by (try dsimp only at hSw); go_simp⟩) (by assumption) ?_
      try simp only [List.getElem_toArray, List.getElem_cons_zero, List.getElem_cons_succ, Act.put, List.setIfInBounds_toArray, List.set_cons_zero, List.set_cons_succ]
      refine wpAnyH_take (i := 4) (v := .int .i64 p9) rfl (by kernel_rfl) (by kernel_rfl) (by kernel_rfl) (weak_put (by decide) (by decide)) (Or.inl ⟨by rfl, fun w hSw => by (try dsimp only at hSw); go_simp⟩) (by assumption) ?_
      try simp only [List.getElem_toArray, List.getElem_cons_zero, List.getElem_cons_succ, Act.put, List.setIfInBounds_toArray, List.set_cons_zero, List.set_cons_succ]
      refine wpAnyH_take (i := 5) (v := .pointer (some ⟨X, 0, none⟩)) rfl (by kernel_rfl) (by kernel_rfl) (by kernel_rfl) (weak_put (by decide) (by decide)) (Or.inl ⟨by rfl, fun w hSw => by (try dsimp only at hSw); go_simp⟩) (by assumption) ?_
      try simp only [List.getElem_toArray, List.getElem_cons_zero, List.getElem_cons_succ, Act.put, List.setIfInBounds_toArray, List.set_cons_zero, List.set_cons_succ]
      refine wpAnyH_take (i := 6) (v := .pointer (some ⟨X, 0, none⟩)) rfl (by kernel_rfl) (by kernel_rfl) (by kernel_rfl) (weak_put (by decide) (by decide)) (Or.inl ⟨by rfl, fun w hSw => by (try dsimp only at hSw); go_simp⟩) (by assumption) ?_
      try simp only [List.getElem_toArray, List.getElem_cons_zero, List.getElem_cons_succ, Act.put, List.setIfInBounds_toArray, List.set_cons_zero, List.set_cons_succ]
      refine wpAnyH_take (i := 7) (v := .pointer (some ⟨X, 0, none⟩)) rfl (by kernel_rfl) (by kernel_rfl) (by kernel_rfl) (weak_put (by decide) (by decide)) (Or.inl ⟨by rfl, fun w hSw => by (try dsimp only at hSw); go_simp⟩) (by assumption) ?_
      try simp only [List.getElem_toArray, List.getElem_cons_zero, List.getElem_cons_succ, Act.put, List.setIfInBounds_toArray, List.set_cons_zero, List.set_cons_succ]
      refine wpAnyH_take (i := 8) (v := .string s) rfl (by kernel_rfl) (by kernel_rfl) (by kernel_rfl) (weak_put (by decide) (by decide)) (Or.inl ⟨by rfl, fun w hSw => by (try dsimp only at hSw); go_simp⟩) (by assumption) ?_
      try simp only [List.getElem_toArray, List.getElem_cons_zero, List.getElem_cons_succ, Act.put, List.setIfInBounds_toArray, List.set_cons_zero, List.set_cons_succ]
      refine wpAnyH_take (i := 9) (v := .int .i64 (s.size : Int)) rfl (by kernel_rfl) (by kernel_rfl) (by kernel_rfl) (weak_put (by decide) (by decide)) (Or.inl ⟨by rfl, fun w hSw => by (try dsimp only at hSw); go_simp⟩) (by assumption) ?_
      try simp only [List.getElem_toArray, List.getElem_cons_zero, List.getElem_cons_succ, Act.put, List.setIfInBounds_toArray, List.set_cons_zero, List.set_cons_succ]
      refine wpAnyH_take (i := 10) (v := .bool false) rfl (by kernel_rfl) (by kernel_rfl) (by kernel_rfl) (weak_put (by decide) (by decide)) (Or.inl ⟨by rfl, fun w hSw => by (try dsimp only at hSw); go_simp⟩) (by assumption) ?_
      try simp only [List.getElem_toArray, List.getElem_cons_zero, List.getElem_cons_succ, Act.put, List.setIfInBounds_toArray, List.set_cons_zero, List.set_cons_succ]
      refine wpAnyH_ready (rs := [11]) (by kernel_rfl) (by simp) ?_
      refine AllReadyH.cons (i := 11) rfl (fun K hK => ?_) AllReadyH.nil
      go_simp
      refine (need_no _ _).mono ?_
      rintro e w8 ⟨rfl, rfl⟩
      exact ⟨rfl, rfl, rfl, rfl, rfl⟩
  · have HE9 : Hid (readM k f t s = (zeroM, f9)) := hid (by rw [HRM.out, if_pos (show f9 ≠ 0 from h0)])
    have N := HN.out
    have HU : Hid (ReadOut M E w w5) := hid ⟨⟨_, at_turn HM.out hT (show M ≠ X by omega), rfl⟩, ⟨_, at_turn HE.out hT (show E ≠ X by omega)⟩, kept_tn (tn_turn hT) HK.out (fun b hb => by omega), by omega, by omega⟩
    clear HK HF HM HE HX HC hT HRM HMo
    go_wp2_with fail
    exact read_out HE9.out (by have := HN.out; omega) HU.out ⟨rfl, rfl, rfl⟩
end Go.Proofs.YtioeidhblbfgmaaGreat
