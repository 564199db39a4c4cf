/- The landed requests as they lie in memory (AO); the contracts of their closures, of fresh, and of nil requests. Texts have at most 3000 bytes. -/
import Derived.Test.YtjmldnbepajnoaaRAkCode1
import Derived.Test.YtjmldnbepajnoaaRClone
namespace Go.Proofs.YtjmldnbepajnoaaR
open Go.ChangeShapes Go.WideShapes Go.ChangeAt Go.RowKit
set_option linter.unusedVariables false
set_option linter.unusedSimpArgs false
set_option maxRecDepth 100000

/- What stands for a node. -/
def memQ (a : Aq) (n : Int) : Ad := ⟨n, a.come n.toNat, if saysB a n then a.rp n.toNat else zeroRp⟩
def memL (a : Aq) : List Ad := a.l.map (memQ a)
theorem mem_len (a : Aq) : (memL a).length = a.l.length := List.length_map _
theorem mem_get {a : Aq} {i : Nat} {n : Int} (h : a.l[i]? = some n) : (memL a)[i]? = some (memQ a n) := by
  unfold memL
  rw [List.getElem?_map, h]
  rfl
theorem mem_has (a : Aq) (n : Int) : (memQ a n).x.has = saysB a n := by
  unfold memQ
  cases h : saysB a n with
  | false => rfl
  | true =>
    unfold saysB at h
    simp only [Bool.and_eq_true] at h
    simpa using h.2
theorem mem_yes {a : Aq} {n : Int} (h : saysB a n = true) : (memQ a n).x = a.rp n.toNat := by unfold memQ; rw [if_pos h]
/- A time, and a row of one's own. -/
def AO : Shape Aq := fun w X a F => ∃ v, At w X #[.int .u64 a.u, v] 51 ∧ Og encA 12 54 w 0 v (memL a) ∧ ∀ b, F b ↔ (b = X ∨ v.ownBlock = some b)
theorem ao_lt {w : World} {X b : Nat} {a : Aq} {F : Nat → Prop} (h : AO w X a F) (hb : F b) : b < w.heap.size := by
  obtain ⟨v, hX, hO, hF⟩ := h
  rcases (hF b).1 hb with rfl | e
  · exact at_lt hX
  · exact (World.ownsRow.lt hO b e).2
theorem ao_stay {w w' : World} {X : Nat} {a : Aq} {F : Nat → Prop} (h : AO w X a F) (hs : ∀ b, F b → w'.heap[b]? = w.heap[b]?) : AO w' X a F := by
  obtain ⟨v, hX, hO, hF⟩ := h
  exact ⟨v, (hs X ((hF X).2 (.inl rfl))).trans hX, og_block hO (fun g cur hg _ => hs g ((hF g).2 (.inr hg))), hF⟩
theorem ao_obj : ObjIs AO := ⟨ao_lt, ao_stay⟩
theorem ao_kept {w w' : World} {X : Nat} {a : Aq} {F : Nat → Prop} (h : AO w X a F) (k : Kept w w') : AO w' X a F := ao_stay h (fun b hb => kept_block k (ao_lt h hb))
theorem ao_ne {w : World} {X : Nat} {u v : Value} {l : List Ad} (hX : At w X #[u, v] 51) (hO : Og encA 12 54 w 0 v l) : ∀ b, v.ownBlock = some b → b ≠ X := own_ne hO hX (by decide)
theorem at_cells2 {w : World} {X T : Nat} {a0 a1 : Value} (h : At w X #[a0, a1] T) : w.cell? ⟨X, 0, none⟩ = some a0 ∧ w.cell? ⟨X, 1, none⟩ = some a1 ∧ ∀ j, w.frozen? ⟨X, j, none⟩ = false := ⟨at_cell h 0, at_cell h 1, at_frozen h⟩
theorem at_beside {α : Type} {enc : α → List Value} {c : Nat} {T U : TypeId} {w w' : World} {B X : Nat} {v : Value} {xs : List α} {cs : Array Value} (h : At w X cs T) (k : Og enc c U w B v xs) (hTU : T ≠ U) (g : w.grownBy w' v.ownBlock) : At w' X cs T :=
  (g.block X (at_lt h) (fun e => own_ne k h (fun q => hTU q.symm) X e.symm rfl)).trans h
/- Records held against each other. -/
theorem bytes_ext (s t : ByteArray) (h : s.data.toList = t.data.toList) : s = t := by
  cases s; cases t; simp at h; simpa using h
def sameT (a b : ByteArray) : Bool := a.toList == b.toList
theorem sameT_iff (a b : ByteArray) : sameT a b = true ↔ a = b := by
  unfold sameT
  rw [ByteArray.toList_eq, ByteArray.toList_eq, beq_iff_eq]
  exact ⟨fun h => bytes_ext _ _ h, fun h => by rw [h]⟩
def sameR (a b : R) : Bool := sameT a.key b.key && (same a.s b.s && (decide (a.kind = b.kind) && (decide (a.flags = b.flags) && (decide (a.exp = b.exp) && sameT a.body b.body))))
theorem sameR_iff (a b : R) : sameR a b = true ↔ a = b := by
  unfold sameR
  simp only [Bool.and_eq_true, sameT_iff, same_iff, decide_eq_true_eq]
  constructor
  · rintro ⟨h1, h2, h3, h4, h5, h6⟩; exact R.ext' h1 h2 h3 h4 h5 h6
  · rintro rfl; simp
set_option maxHeartbeats 800000 in
theorem eq_rec (a b : R) (w : World) : (Op.equalIn 10000 32 (.agg #[.string a.key, .int .u64 a.s.p, .int .u32 a.s.l, .int .u8 a.s.n, .int .u8 a.kind, .int .u32 a.flags, .int .u64 a.exp, .string a.body]) (.agg #[.string b.key, .int .u64 b.s.p, .int .u32 b.s.l, .int .u8 b.s.n, .int .u8 b.kind, .int .u32 b.flags, .int .u64 b.exp, .string b.body])).run Try.prog w = .ok (sameR a b) w := by
  go_simp
  unfold sameR sameT same
  repeat' split
  all_goals simp_all
/- The closures. -/
theorem takep_any (n : Int) (Z T : Nat) (q : Ad) (w : World) (hZ : At w Z #[.int .u8 n] T) : Calls Try.prog 16 #[.agg #[.int .u8 q.n, .bool q.c, .bool q.x.has, .bool q.x.past, .string q.x.r.key, .int .u64 q.x.r.s.p, .int .u32 q.x.r.s.l, .int .u8 q.x.r.s.n, .int .u8 q.x.r.kind, .int .u32 q.x.r.flags, .int .u64 q.x.r.exp, .string q.x.r.body], .pointer (some ⟨Z, 0, none⟩)] w fun e w' => e = .returned (.bool (q.n == n)) ∧ Kept w w' := by
  have HK := hid (kept_alloc (kept_refl w) (.cells #[.int .u8 q.n, .bool q.c, .bool q.x.has, .bool q.x.past, .string q.x.r.key, .int .u64 q.x.r.s.p, .int .u32 q.x.r.s.l, .int .u8 q.x.r.s.n, .int .u8 q.x.r.kind, .int .u32 q.x.r.flags, .int .u64 q.x.r.exp, .string q.x.r.body] 54))
  have HZ := hid (at_alloc hZ (.cells #[.int .u8 q.n, .bool q.c, .bool q.x.has, .bool q.x.past, .string q.x.r.key, .int .u64 q.x.r.s.p, .int .u32 q.x.r.s.l, .int .u8 q.x.r.s.n, .int .u8 q.x.r.kind, .int .u32 q.x.r.flags, .int .u64 q.x.r.exp, .string q.x.r.body] 54))
  have z0 := at_cell HZ.out 0
  obtain ⟨b0, b1, b2, b3, b4, b5, b6, b7, b8, b9, ba, bb⟩ := cells12 (at_new w #[.int .u8 q.n, .bool q.c, .bool q.x.has, .bool q.x.past, .string q.x.r.key, .int .u64 q.x.r.s.p, .int .u32 q.x.r.s.l, .int .u8 q.x.r.s.n, .int .u8 q.x.r.kind, .int .u32 q.x.r.flags, .int .u64 q.x.r.exp, .string q.x.r.body] 54)
  have z1 : (w.alloc (.cells #[.int .u8 q.n, .bool q.c, .bool q.x.has, .bool q.x.past, .string q.x.r.key, .int .u64 q.x.r.s.p, .int .u32 q.x.r.s.l, .int .u8 q.x.r.s.n, .int .u8 q.x.r.kind, .int .u32 q.x.r.flags, .int .u64 q.x.r.exp, .string q.x.r.body] 54)).cell? ⟨Z, 0, none⟩ = some (.int .u8 n) := z0
  clear hZ z0
  go_enter Try.func16, Try.ntmps16
  go_wp2_with fail
  go_ret
  exact ⟨rfl, HK.out⟩
theorem overp_any (q : Ad) (w : World) : Calls Try.prog 22 #[.agg #[.int .u8 q.n, .bool q.c, .bool q.x.has, .bool q.x.past, .string q.x.r.key, .int .u64 q.x.r.s.p, .int .u32 q.x.r.s.l, .int .u8 q.x.r.s.n, .int .u8 q.x.r.kind, .int .u32 q.x.r.flags, .int .u64 q.x.r.exp, .string q.x.r.body]] w fun e w' => e = .returned (.bool (!q.c)) ∧ Kept w w' := by
  have HK := hid (kept_alloc (kept_refl w) (.cells #[.int .u8 q.n, .bool q.c, .bool q.x.has, .bool q.x.past, .string q.x.r.key, .int .u64 q.x.r.s.p, .int .u32 q.x.r.s.l, .int .u8 q.x.r.s.n, .int .u8 q.x.r.kind, .int .u32 q.x.r.flags, .int .u64 q.x.r.exp, .string q.x.r.body] 54))
  obtain ⟨b0, b1, b2, b3, b4, b5, b6, b7, b8, b9, ba, bb⟩ := cells12 (at_new w #[.int .u8 q.n, .bool q.c, .bool q.x.has, .bool q.x.past, .string q.x.r.key, .int .u64 q.x.r.s.p, .int .u32 q.x.r.s.l, .int .u8 q.x.r.s.n, .int .u8 q.x.r.kind, .int .u32 q.x.r.flags, .int .u64 q.x.r.exp, .string q.x.r.body] 54)
  go_enter Try.func22, Try.ntmps22
  go_wp2_with fail
  go_ret
  exact ⟨rfl, HK.out⟩
def liveP (r : R) (q : Ad) : Bool := (q.x.has && !q.x.past) && sameR q.x.r r
theorem livep_any (r : R) (Z T : Nat) (q : Ad) (w : World) (hZ : At w Z #[.string r.key, .int .u64 r.s.p, .int .u32 r.s.l, .int .u8 r.s.n, .int .u8 r.kind, .int .u32 r.flags, .int .u64 r.exp, .string r.body] T) : Calls Try.prog 24 #[.agg #[.int .u8 q.n, .bool q.c, .bool q.x.has, .bool q.x.past, .string q.x.r.key, .int .u64 q.x.r.s.p, .int .u32 q.x.r.s.l, .int .u8 q.x.r.s.n, .int .u8 q.x.r.kind, .int .u32 q.x.r.flags, .int .u64 q.x.r.exp, .string q.x.r.body], .pointer (some ⟨Z, 0, none⟩)] w fun e w' => e = .returned (.bool (liveP r q)) ∧ Kept w w' := by
  obtain ⟨qn, qc, hs, ps, qr⟩ := q
  have HK := hid (kept_alloc (kept_refl w) (.cells #[.int .u8 qn, .bool qc, .bool hs, .bool ps, .string qr.key, .int .u64 qr.s.p, .int .u32 qr.s.l, .int .u8 qr.s.n, .int .u8 qr.kind, .int .u32 qr.flags, .int .u64 qr.exp, .string qr.body] 54))
  have HZ := hid (at_alloc hZ (.cells #[.int .u8 qn, .bool qc, .bool hs, .bool ps, .string qr.key, .int .u64 qr.s.p, .int .u32 qr.s.l, .int .u8 qr.s.n, .int .u8 qr.kind, .int .u32 qr.flags, .int .u64 qr.exp, .string qr.body] 54))
  have HL : Hid (((hs && !ps) && sameR qr r) = liveP r ⟨qn, qc, hs, ps, qr⟩) := hid rfl
  have heq := eq_rec qr r
  obtain ⟨z0, z1, z2, z3, z4, z5, z6, z7⟩ := at_cells8' HZ.out
  obtain ⟨b0, b1, b2, b3, b4, b5, b6, b7, b8, b9, ba, bb⟩ := cells12 (at_new w #[.int .u8 qn, .bool qc, .bool hs, .bool ps, .string qr.key, .int .u64 qr.s.p, .int .u32 qr.s.l, .int .u8 qr.s.n, .int .u8 qr.kind, .int .u32 qr.flags, .int .u64 qr.exp, .string qr.body] 54)
  clear hZ
  generalize liveP r ⟨qn, qc, hs, ps, qr⟩ = out at *
  cases hs with
  | false =>
    have HL2 : Hid (false = out) := hid HL.out
    clear HL
    go_enter Try.func24, Try.ntmps24
    go_wp2_with fail
    go_ret
    exact ⟨ret_bool HL2.out, HK.out⟩
  | true =>
    cases ps with
    | true =>
      have HL2 : Hid (false = out) := hid HL.out
      clear HL
      go_enter Try.func24, Try.ntmps24
      go_wp2_with fail
      go_ret
      exact ⟨ret_bool HL2.out, HK.out⟩
    | false =>
      have HL2 : Hid (sameR qr r = out) := hid HL.out
      clear HL
      go_enter Try.func24, Try.ntmps24
      go_wp2_with fail
      go_ret
      exact ⟨ret_bool HL2.out, HK.out⟩
theorem enters_take : Enters 16 := enters_of Try.func16 (by kernel_rfl) rfl
theorem enters_over : Enters 22 := enters_of Try.func22 (by kernel_rfl) rfl
theorem enters_live : Enters 24 := enters_of Try.func24 (by kernel_rfl) rfl
/- Nil requests. -/
theorem take_none (n : Int) (x : Rp) (w : World) : Calls Try.prog 9 #[.pointer none, .int .u8 n, .agg #[.bool x.has, .bool x.past, .string x.r.key, .int .u64 x.r.s.p, .int .u32 x.r.s.l, .int .u8 x.r.s.n, .int .u8 x.r.kind, .int .u32 x.r.flags, .int .u64 x.r.exp, .string x.r.body]] w fun e w' => e = .returned (.bool false) ∧ Kept w w' := by
  have HK := hid (kept_alloc (kept_alloc (kept_refl w) (.cells #[.int .u8 n] 5)) (.cells #[.bool x.has, .bool x.past, .string x.r.key, .int .u64 x.r.s.p, .int .u32 x.r.s.l, .int .u8 x.r.s.n, .int .u8 x.r.kind, .int .u32 x.r.flags, .int .u64 x.r.exp, .string x.r.body] 34))
  go_enter Try.func9, Try.ntmps9
  go_wp2_with fail
  go_ret
  exact ⟨rfl, HK.out⟩
theorem over_none (now : Int) (w : World) : Calls Try.prog 14 #[.pointer none, .int .u64 now] w fun e w' => e = .returned (.bool true) ∧ Kept w w' := by
  have HK := hid (kept_refl w)
  go_enter Try.func14, Try.ntmps14
  go_wp2_with fail
  go_ret
  exact ⟨rfl, HK.out⟩
theorem yes_none (w : World) : Calls Try.prog 11 #[.pointer none] w fun e w' => e = .returned (.int .i64 0) ∧ Kept w w' := by
  have HK := hid (kept_refl w)
  go_enter Try.func11, Try.ntmps11
  go_wp2_with fail
  go_ret
  exact ⟨rfl, HK.out⟩
theorem behind_none (w : World) : Calls Try.prog 13 #[.pointer none] w fun e w' => ∃ a cap, e = .returned (.slice a 0 cap) ∧ Kept w w' := by
  have HK := hid (kept_refl w)
  go_enter Try.func13, Try.ntmps13
  go_wp2_with fail
  go_ret
  exact ⟨none, 0, rfl, HK.out⟩
end Go.Proofs.YtjmldnbepajnoaaR
