/- The law that a frame in which one bit is turned is refused, walked: it answers true and turns nothing that was there. Texts have at most as many bytes as a text may have. The plain mathematics of messages: which may be, their bytes, how they are read. No condition but those that are stated. What is laid is read as it was, and what is read is laid as the very bytes: numbers, keys, records, lists, bodies, messages. No condition but those that are stated. -/
import Derived.Test.YtioeidhblbfgmaaGreatY9
import Derived.Test.YtioeidhblbfgmaaGreatY4

namespace Go.Proofs.YtioeidhblbfgmaaGreat.Frm
open Go.ChangeShapes Go.WideShapes Go.ChangeAt Go.RowKit
set_option linter.unusedVariables false
set_option maxRecDepth 100000
set_option linter.unusedSimpArgs false

/- The bytes of a text, laid as a row: what is kept, what the cells hold. -/
theorem bytes_in (W : World) (cs : List (Nat × Nat)) (w : World) (s : ByteArray) (cap : Nat) (h : St W cs w) (o : Nat × Nat) (ho : s.size ≤ o.1) :
    St W cs (w.drew.alloc (.cells (bytesRow s cap) 5 o)) ∧ Bx w (w.drew.alloc (.cells (bytesRow s cap) 5 o)) ∧ (w.drew.alloc (.cells (bytesRow s cap) 5 o)).heap.size = w.heap.size + 1 ∧
      (∀ j (hj : j < s.size), (w.drew.alloc (.cells (bytesRow s cap) 5 o)).cell? ⟨w.heap.size, j, none⟩ = some (.int .u8 (s[j].toNat : Int))) ∧
      ∀ j, j < s.size → (w.drew.alloc (.cells (bytesRow s cap) 5 o)).frozen? ⟨w.heap.size, j, none⟩ = false := by
  have hb : (w.drew.alloc (.cells (bytesRow s cap) 5 o)).heap[w.heap.size]? = some (.cells (bytesRow s cap) 5 o) := by
    show (w.heap.push _)[w.heap.size]? = _
    simp
  have hk : Kept w (w.drew.alloc (.cells (bytesRow s cap) 5 o)) := by
    refine kept_of rfl rfl ?_ (fun i hi => Below.heap_alloc w.drew _ i hi)
    show _ ≤ (w.heap.push _).size
    simp
  refine ⟨st_kept h hk, bx_kept hk, ?_, fun j hj => ?_, fun j hj => ?_⟩
  · show (w.heap.push _).size = _; simp
  · have e : (bytesRow s cap)[j]? = some (.int .u8 (s[j].toNat : Int)) := by
      unfold bytesRow
      have hj' : j < s.data.size := hj
      rw [Array.getElem?_append_left (by simpa using hj'), Array.getElem?_map, Array.getElem?_eq_getElem hj']
      rfl
    unfold World.cell?
    rw [hb]
    exact e
  · unfold World.frozen?
    rw [hb]
    show (decide (o.1 ≤ j) && decide (j < o.2)) = false
    rw [decide_eq_false (by omega)]
    rfl
/- A store into a row of the law's own, whose block holds no table, no codec and no frame. -/
theorem st_own {W : World} {cs : List (Nat × Nat)} {u w : World} {B : Nat} (h : St W cs w) (hu : St W cs u) (hB : u.heap.size ≤ B) (hW : W.heap.size ≤ u.heap.size) (o : Nat) (v : Value) : St W cs (w.setCell ⟨B, o, none⟩ v) := by
  have hz : (w.setCell ⟨B, o, none⟩ v).heap.size = w.heap.size := by simp [World.setCell]
  refine ⟨kept_of (show w.os = W.os from kept_os h.1) (show w.output = W.output from kept_output h.1) (by rw [hz]; exact h.1.2) (fun i hi => (Below.heap_setCell _ _ _ _ (by show i ≠ B; omega)).trans (kept_block h.1 hi)), fun c b hm => ?_⟩
  obtain ⟨k1, k2⟩ := h.2 c b hm
  obtain ⟨j1, j2⟩ := hu.2 c b hm
  have n1 : c ≠ B := by have := j2.1; omega
  have n2 : b ≠ B := by have := j2.2.1; omega
  exact ⟨k1, by rw [hz]; exact k2.1, by rw [hz]; exact k2.2.1, (World.cell?_of_block (w := w) (Below.heap_setCell _ _ _ _ n1)).trans k2.2.2.1, tab_block k2.2.2.2 (Below.heap_setCell _ _ _ _ n2)⟩
theorem box_own {X B : Nat} {k f t : Int} {s : ByteArray} {w : World} (h : Box X k f t s w) (hn : X ≠ B) (o : Nat) (v : Value) : Box X k f t s (w.setCell ⟨B, o, none⟩ v) :=
  box_block h (by simp [World.setCell]) (Below.heap_setCell _ _ _ _ hn)
theorem flip (a : UInt8) (q : Nat) (hq : q < 8) : ∃ c : UInt8, c ≠ a ∧ bits .xor .u8 (a.toNat : Int) ((2 : Int) ^ q % 256) = (c.toNat : Int) := by
  have h2 : 2 ^ q < 256 := Nat.pow_lt_pow_right (a := 2) (n := 8) (by omega) hq
  have h0 : 0 < 2 ^ q := Nat.pow_pos (by omega)
  have e : ((2 : Int) ^ q % 256) = ((2 ^ q : Nat) : Int) := by
    rw [Int.natCast_pow]
    have : (((2 ^ q : Nat) : Nat) : Int) = (2 : Int) ^ q := by rw [Int.natCast_pow]; rfl
    omega
  have hx : a.toNat ^^^ 2 ^ q < 256 := Nat.xor_lt_two_pow (n := 8) (u8_lt a) h2
  refine ⟨UInt8.ofNat (a.toNat ^^^ 2 ^ q), fun hc => ?_, ?_⟩
  · have := congrArg UInt8.toNat hc
    rw [UInt8.toNat_ofNat', Nat.mod_eq_of_lt hx] at this
    have h3 : a.toNat ^^^ (a.toNat ^^^ 2 ^ q) = 0 := by rw [this, Nat.xor_self]
    rw [← Nat.xor_assoc, Nat.xor_self, Nat.zero_xor] at h3
    omega
  · rw [e, u8_xor_nat _ _ (u8_lt a) h2, UInt8.toNat_ofNat', Nat.mod_eq_of_lt hx]
theorem enc_bad (k f t : UInt8) (s : ByteArray) (h : (encS k f t s).2 ≠ 0) : (encS k f t s).1 = ⟨#[]⟩ := by
  unfold encS at h ⊢
  split
  · rfl
  split
  · rename_i h1 h2
    rw [if_neg h1, if_pos h2] at h
    exact absurd rfl h
  · rfl
/- One byte turned: refused. -/
theorem turned (k f t : UInt8) (s : ByteArray) (h : (encS k f t s).2 = 0) (p : Nat) (hp : p < (encS k f t s).1.size) (c : UInt8) (hc : c ≠ (encS k f t s).1[p]) : why ((encS k f t s).1.data.toList.set p c) ≠ 0 := by
  obtain ⟨h1, h2, h3⟩ := enc_ok k f t s h
  have hl : (encS k f t s).1.data.toList = lay k f t s.data.toList := by rw [h3]
  have hp' : p < (lay k f t s.data.toList).length := by rw [← hl, toList_size]; exact hp
  rw [hl]
  refine why_set k f t s.data.toList p hp' c ?_
  intro e
  apply hc
  rw [e]
  have : (encS k f t s).1[p] = (encS k f t s).1.data.toList[p]'(by rw [toList_size]; exact hp) := rfl
  rw [this]
  simp only [hl]
theorem enc_pos (k f t : UInt8) (s : ByteArray) (h : (encS k f t s).2 = 0) : 12 ≤ (encS k f t s).1.size ∧ (encS k f t s).1.size = 12 + s.size := by
  obtain ⟨h1, h2, h3⟩ := enc_ok k f t s h
  have : (encS k f t s).1.size = 12 + s.size := by
    rw [← toList_size, h3]
    show (lay k f t s.data.toList).length = _
    rw [lay_length, toList_size]
  omega
theorem encode_nil_in (W : World) (cs : List (Nat × Nat)) (k f t : UInt8) (s : ByteArray) (w : World) (h : St W cs w) :
    Calls Tryz.prog 20 #[.pointer none, .agg #[.int .u8 (k.toNat : Int), .int .u8 (f.toNat : Int), .int .u8 (t.toNat : Int), .string s]] w fun e w' => e = .returned (.tuple #[.string ⟨#[]⟩, .int .i64 1]) ∧ St W cs w' ∧ Bx w w' :=
  (encode_nil k f t s w).mono fun _ _ ⟨he, hK⟩ => ⟨he, st_kept h hK, bx_kept hK⟩
theorem decode_nil_in (W : World) (cs : List (Nat × Nat)) (s : ByteArray) (w : World) (h : St W cs w) :
    Calls Tryz.prog 24 #[.pointer none, .string s] w fun e w' => e = .returned (.tuple #[.agg #[.int .u8 0, .int .u8 0, .int .u8 0, .string ⟨#[]⟩], .int .i64 1]) ∧ St W cs w' ∧ Bx w w' :=
  (decode_nil s w).mono fun _ _ ⟨he, hK⟩ => ⟨he, st_kept h hK, bx_kept hK⟩
theorem dec_bad (s : ByteArray) (h : why s.data.toList ≠ 0) : dec s = (0, 0, 0, ⟨#[]⟩) := by unfold dec; rw [if_neg h]
end Go.Proofs.YtioeidhblbfgmaaGreat.Frm


namespace Go.Proofs.YtioeidhblbfgmaaGreat
set_option linter.unusedVariables false
set_option linter.unusedSimpArgs false
set_option maxRecDepth 100000

structure Nw where
  node : Int
  st : Int
  inc : Int
structure Sn where
  key : ByteArray
  s : Stp
  kind : Int
structure Ms where
  kind : Int
  frm : Int
  dst : Int
  id : Int
  tgt : Int
  rng : Int
  flag : Bool
  news : List Nw
  keys : List ByteArray
  recs : List R
  seen : List Sn
  digs : List Int
def zeroM : Ms := ⟨0, 0, 0, 0, 0, 0, false, [], [], [], [], []⟩
/- What may be handed in. -/
def NwOk (x : Nw) : Prop := (0 ≤ x.node ∧ x.node < 256) ∧ (0 ≤ x.st ∧ x.st < 256) ∧ (0 ≤ x.inc ∧ x.inc < 4294967296)
def SnOk (x : Sn) : Prop := x.key.size ≤ maxLen ∧ x.s.ok ∧ (0 ≤ x.kind ∧ x.kind < 256)
def u64Ok (x : Int) : Prop := 0 ≤ x ∧ x < 18446744073709551616
structure MsOk (m : Ms) : Prop where
  kind : 0 ≤ m.kind ∧ m.kind < 256
  frm : 0 ≤ m.frm ∧ m.frm < 256
  dst : 0 ≤ m.dst ∧ m.dst < 256
  id : 0 ≤ m.id ∧ m.id < 4294967296
  tgt : 0 ≤ m.tgt ∧ m.tgt < 256
  rng : 0 ≤ m.rng ∧ m.rng < 256
  news : ∀ x ∈ m.news, NwOk x
  keys : ∀ x ∈ m.keys, x.size ≤ maxLen
  recs : ∀ x ∈ m.recs, x.ok
  seen : ∀ x ∈ m.seen, SnOk x
  digs : ∀ x ∈ m.digs, u64Ok x
/- Which may be. -/
def mayN (x : Nw) : Bool := decide (x.node < 64) && (decide (1 ≤ x.st) && decide (x.st ≤ 4))
def mayS (x : Sn) : Bool := keyMay x.key && (decide (x.s.p ≤ 281474976710655) && (decide (x.s.n < 64) && (decide (1 ≤ x.kind) && decide (x.kind ≤ 3))))
def mayHead (m : Ms) : Bool := decide (1 ≤ m.kind) && (decide (m.kind ≤ 14) && (decide (m.frm ≤ 63) && (decide (m.dst ≤ 63) && (decide (m.tgt ≤ 63) && decide (m.rng ≤ 63)))))
def mayLen (m : Ms) : Bool := decide (m.news.length ≤ 4096) && (decide (m.keys.length ≤ 4096) && (decide (m.recs.length ≤ 4096) && (decide (m.seen.length ≤ 4096) && decide (m.digs.length ≤ 4096))))
def mayM (m : Ms) : Bool := mayHead m && (mayLen m && (m.news.all mayN && (m.keys.all keyMay && (m.recs.all mayR && m.seen.all mayS))))
/- Its bytes. -/
def catB {α : Type} (e : α → ByteArray) (l : List α) : ByteArray := l.foldl (fun b x => b ++ e x) ⟨#[]⟩
def newsB (x : Nw) : ByteArray := encI x.node ++ encI x.st ++ encI x.inc
def seenB (x : Sn) : ByteArray := textE x.key ++ encI x.s.p ++ encI x.s.l ++ encI x.s.n ++ encI x.kind
def digB (x : Int) : ByteArray := encI (x / 4294967296) ++ encI (x % 4294967296)
def flagB (b : Bool) : ByteArray := if b then ⟨#[1]⟩ else ⟨#[0]⟩
def headM (m : Ms) : ByteArray := encI m.id ++ encI m.tgt ++ encI m.rng ++ flagB m.flag
def listB {α : Type} (e : α → ByteArray) (l : List α) : ByteArray := encB l.length ++ catB e l
def bodyM (m : Ms) : ByteArray := headM m ++ listB newsB m.news ++ listB textE m.keys ++ listB putR m.recs ++ listB seenB m.seen ++ listB digB m.digs
theorem catB_nil {α : Type} (e : α → ByteArray) : catB e [] = ⟨#[]⟩ := rfl
theorem catB_next {α : Type} (e : α → ByteArray) (l : List α) (x : α) : catB e (l ++ [x]) = catB e l ++ e x := by unfold catB; rw [List.foldl_append]; rfl
theorem mnil_app (b : ByteArray) : (⟨#[]⟩ : ByteArray) ++ b = b := bytes_ext _ _ (by simp)
theorem mapp_nil (b : ByteArray) : b ++ (⟨#[]⟩ : ByteArray) = b := bytes_ext _ _ (by simp)
theorem foldB_from {α : Type} (e : α → ByteArray) : ∀ (l : List α) (b : ByteArray), l.foldl (fun b x => b ++ e x) b = b ++ catB e l
  | [], b => (mapp_nil b).symm
  | x :: l, b => by
    show l.foldl _ (b ++ e x) = b ++ l.foldl _ (⟨#[]⟩ ++ e x)
    rw [foldB_from e l (b ++ e x), foldB_from e l (⟨#[]⟩ ++ e x), mnil_app, ByteArray.append_assoc]
theorem catB_cons {α : Type} (e : α → ByteArray) (x : α) (l : List α) : catB e (x :: l) = e x ++ catB e l := by
  show l.foldl _ (⟨#[]⟩ ++ e x) = _
  rw [foldB_from, mnil_app]
theorem encB_0 : encB 0 = ⟨#[0]⟩ := by decide +kernel
theorem encB_1 : encB 1 = ⟨#[1]⟩ := by decide +kernel
theorem flagB_is (b : Bool) : flagB b = encB (if b then 1 else 0) := by
  cases b
  · exact encB_0.symm
  · exact encB_1.symm
/- How it is read. -/
def numM (s : ByteArray) (lo hi : Nat) (q : Int × Nat) : Nat × (Int × Nat) :=
  if q.2 = 0 then
    if (getN s q.1).2.2 = 0 then (if (getN s q.1).1 < lo ∨ hi < (getN s q.1).1 then (0, (q.1, 3)) else ((getN s q.1).1, (((getN s q.1).2.1 : Int), 0)))
    else (0, (q.1, (getN s q.1).2.2))
  else (0, q)
def keyM (s : ByteArray) (q : Int × Nat) : ByteArray × (Int × Nat) :=
  if q.2 = 0 then
    if (getT s q.1 250).2.2 = 0 then (if keyMay (getT s q.1 250).1 then ((getT s q.1 250).1, (((getT s q.1 250).2.1 : Int), 0)) else (⟨#[]⟩, (q.1, 3)))
    else (⟨#[]⟩, (q.1, (getT s q.1 250).2.2))
  else (⟨#[]⟩, q)
def recM (s : ByteArray) (q : Int × Nat) : R × (Int × Nat) :=
  if q.2 = 0 then
    if (getR s q.1).2.2 = 0 then ((getR s q.1).1, ((getR s q.1).2.1, 0)) else (zeroR, (q.1, (getR s q.1).2.2))
  else (zeroR, q)
def newsM (s : ByteArray) (q : Int × Nat) : Nw × (Int × Nat) :=
  (⟨(numM s 0 63 q).1, (numM s 1 4 (numM s 0 63 q).2).1, (numM s 0 4294967295 (numM s 1 4 (numM s 0 63 q).2).2).1⟩, (numM s 0 4294967295 (numM s 1 4 (numM s 0 63 q).2).2).2)
def seenM (s : ByteArray) (q : Int × Nat) : Sn × (Int × Nat) :=
  let k := keyM s q
  let u := numM s 0 281474976710655 k.2
  let v := numM s 0 4294967295 u.2
  let w := numM s 0 63 v.2
  let x := numM s 1 3 w.2
  (⟨k.1, ⟨u.1, v.1, w.1⟩, x.1⟩, x.2)
def digM (s : ByteArray) (q : Int × Nat) : Int × (Int × Nat) :=
  (((numM s 0 4294967295 q).1 * 4294967296 + (numM s 0 4294967295 (numM s 0 4294967295 q).2).1 : Nat), (numM s 0 4294967295 (numM s 0 4294967295 q).2).2)
/- A list: as many as are said, till a fault. -/
def runL {α : Type} (one : Int × Nat → α × (Int × Nat)) : Nat → List α × (Int × Nat) → List α × (Int × Nat)
  | 0, a => a
  | n + 1, a => if a.2.2 = 0 then runL one n (a.1 ++ [(one a.2).1], (one a.2).2) else a
def listM {α : Type} (s : ByteArray) (one : Int × Nat → α × (Int × Nat)) (q : Int × Nat) : List α × (Int × Nat) :=
  runL one (numM s 0 4096 q).1 ([], (numM s 0 4096 q).2)
theorem runL_stop {α : Type} {one : Int × Nat → α × (Int × Nat)} {n : Nat} {a : List α × (Int × Nat)} (h : n = 0 ∨ a.2.2 ≠ 0) : runL one n a = a := by
  cases n with
  | zero => rfl
  | succ n =>
    rcases h with h | h
    · omega
    · unfold runL; rw [if_neg h]
theorem runL_next {α : Type} {one : Int × Nat → α × (Int × Nat)} {n : Nat} {a : List α × (Int × Nat)} (h : a.2.2 = 0) : runL one (n + 1) a = runL one n (a.1 ++ [(one a.2).1], (one a.2).2) := by
  show (if a.2.2 = 0 then _ else _) = _
  rw [if_pos h]
def rA (s : ByteArray) := numM s 0 4294967295 (0, 0)
def rB (s : ByteArray) := numM s 0 63 (rA s).2
def rC (s : ByteArray) := numM s 0 63 (rB s).2
def rD (s : ByteArray) := numM s 0 1 (rC s).2
def rN (s : ByteArray) := listM s (newsM s) (rD s).2
def rK (s : ByteArray) := listM s (keyM s) (rN s).2
def rR (s : ByteArray) := listM s (recM s) (rK s).2
def rS (s : ByteArray) := listM s (seenM s) (rR s).2
def rG (s : ByteArray) := listM s (digM s) (rS s).2
def msgOf (k f t : Int) (s : ByteArray) : Ms := ⟨k, f, t, (rA s).1, (rB s).1, (rC s).1, decide ((rD s).1 = 1), (rN s).1, (rK s).1, (rR s).1, (rS s).1, (rG s).1⟩
def readM (k f t : Int) (s : ByteArray) : Ms × Nat :=
  if (rG s).2.2 ≠ 0 then (zeroM, (rG s).2.2) else if (rG s).2.1 ≠ (s.size : Int) then (zeroM, 3) else (msgOf k f t s, 0)
def byteI (x : Int) : UInt8 := UInt8.ofNat x.toNat
theorem byteI_is {x : Int} (h : 0 ≤ x ∧ x < 256) : ((byteI x).toNat : Int) = x := by
  unfold byteI
  rw [UInt8.toNat_ofNat']
  omega
/- To and back. -/
def packM (m : Ms) : ByteArray × Nat := if mayM m then Frm.encS (byteI m.kind) (byteI m.frm) (byteI m.dst) (bodyM m) else (⟨#[]⟩, 1)
def unM (s : ByteArray) : Ms × Nat :=
  if Frm.why s.data.toList = 0 then readM ((Frm.dec s).1.toNat : Int) ((Frm.dec s).2.1.toNat : Int) ((Frm.dec s).2.2.1.toNat : Int) (Frm.dec s).2.2.2 else (zeroM, Frm.why s.data.toList)
/- More than is gone through. -/
def cntL (m : Ms) : Nat := m.news.length + m.keys.length + m.recs.length + m.seen.length + m.digs.length
def sumK (l : List ByteArray) : Nat := l.foldl (fun n x => n + x.size) 0
def sumR (l : List R) : Nat := l.foldl (fun n x => n + (x.key.size + x.body.size)) 0
def sumS (l : List Sn) : Nat := l.foldl (fun n x => n + x.key.size) 0
def greatM (m : Ms) : Bool := decide (5000 < cntL m) || decide (9000 < cntL m + sumK m.keys + sumR m.recs + sumS m.seen)
end Go.Proofs.YtioeidhblbfgmaaGreat


namespace Go.Proofs.YtioeidhblbfgmaaGreat
set_option linter.unusedVariables false
set_option linter.unusedSimpArgs false
set_option maxRecDepth 100000

/- There. -/
theorem size_app (a b : ByteArray) : (a ++ b).size = a.size + b.size := by simp
theorem numM_at {s A B : ByteArray} {n lo hi : Nat} (hs : s = A ++ encB n ++ B) (hn : n < 4611686018427387904) (h1 : lo ≤ n) (h2 : n ≤ hi) : numM s lo hi ((A.size : Int), 0) = (n, (((A ++ encB n).size : Nat) : Int), 0) := by
  have hg : getN (A ++ encB n ++ B) A.size = (n, A.size + wide (kindOf n), 0) := getN_put A B n hn
  have he : (encB n).size = wide (kindOf n) := enc_length n
  subst hs
  unfold numM
  simp only [hg, if_true]
  rw [if_neg (by omega), size_app, he]
theorem keyM_at {s A B t : ByteArray} (hs : s = A ++ textE t ++ B) (h : keyMay t = true) : keyM s ((A.size : Int), 0) = (t, (((A ++ textE t).size : Nat) : Int), 0) := by
  have hk : t.size ≤ 250 := by
    unfold keyMay at h
    simp only [Bool.and_eq_true, decide_eq_true_eq] at h
    exact h.1.2
  have hg := getT_put A t B 250 (by omega)
  rw [if_neg (by omega)] at hg
  subst hs
  unfold keyM
  simp only [hg, if_true]
  rw [if_pos h, size_app]
theorem recM_at {s A B : ByteArray} {r : R} (hs : s = A ++ putR r ++ B) (hr : r.ok) (h : mayR r = true) : recM s ((A.size : Int), 0) = (r, (((A ++ putR r).size : Nat) : Int), 0) := by
  obtain ⟨h1, h2, h3, h4, h5, h6⟩ := hr
  have hg := getR_put A B r ⟨h2.1, ⟨h2.2.2.1, h2.2.2.2.1⟩, h2.2.2.2.2.1, h4, h5.1⟩ h
  subst hs
  unfold recM
  simp only [hg, if_true, size_app]
theorem encI_nat {x : Int} (h : 0 ≤ x) : (x.toNat : Int) = x := by omega
theorem newsM_at {s A B : ByteArray} {x : Nw} (hs : s = A ++ newsB x ++ B) (hx : NwOk x) (h : mayN x = true) : newsM s ((A.size : Int), 0) = (x, (((A ++ newsB x).size : Nat) : Int), 0) := by
  unfold mayN at h
  simp only [Bool.and_eq_true, decide_eq_true_eq] at h
  obtain ⟨x1, x2, x3⟩ := hx
  have e1 := numM_at (s := s) (A := A) (B := encI x.st ++ encI x.inc ++ B) (n := x.node.toNat) (lo := 0) (hi := 63) (by rw [hs]; unfold newsB encI; simp only [ByteArray.append_assoc]) (by omega) (by omega) (by omega)
  have e2 := numM_at (s := s) (A := A ++ encI x.node) (B := encI x.inc ++ B) (n := x.st.toNat) (lo := 1) (hi := 4) (by rw [hs]; unfold newsB encI; simp only [ByteArray.append_assoc]) (by omega) (by omega) (by omega)
  have e3 := numM_at (s := s) (A := A ++ encI x.node ++ encI x.st) (B := B) (n := x.inc.toNat) (lo := 0) (hi := 4294967295) (by rw [hs]; unfold newsB encI; simp only [ByteArray.append_assoc]) (by omega) (by omega) (by omega)
  have e2' : numM s 1 4 (((A ++ encB x.node.toNat).size : Int), 0) = _ := e2
  unfold newsM
  rw [e1]
  simp only
  rw [e2']
  simp only
  have e3' : numM s 0 4294967295 (((A ++ encI x.node ++ encB x.st.toNat).size : Int), 0) = _ := e3
  rw [e3']
  obtain ⟨a, b, c⟩ := x
  simp only at x1 x2 x3 ⊢
  rw [encI_nat x1.1, encI_nat x2.1, encI_nat x3.1]
  unfold newsB encI
  simp only [ByteArray.append_assoc]
theorem seenM_at {s A B : ByteArray} {x : Sn} (hs : s = A ++ seenB x ++ B) (hx : SnOk x) (h : mayS x = true) : seenM s ((A.size : Int), 0) = (x, (((A ++ seenB x).size : Nat) : Int), 0) := by
  unfold mayS at h
  simp only [Bool.and_eq_true, decide_eq_true_eq] at h
  obtain ⟨hk, h1, h2, h3, h4⟩ := h
  obtain ⟨-, ⟨o1, p2, o2, l2, o3, n2⟩, o4⟩ := hx
  obtain ⟨K, ⟨p, l, n⟩, d⟩ := x
  simp only at *
  have e0 := keyM_at (s := s) (A := A) (B := encI p ++ encI l ++ encI n ++ encI d ++ B) (t := K) (by rw [hs]; unfold seenB encI; simp only [ByteArray.append_assoc]) hk
  have e1 := numM_at (s := s) (A := A ++ textE K) (B := encI l ++ encI n ++ encI d ++ B) (n := p.toNat) (lo := 0) (hi := 281474976710655) (by rw [hs]; unfold seenB encI; simp only [ByteArray.append_assoc]) (by omega) (by omega) (by omega)
  have e2 := numM_at (s := s) (A := A ++ textE K ++ encB p.toNat) (B := encI n ++ encI d ++ B) (n := l.toNat) (lo := 0) (hi := 4294967295) (by rw [hs]; unfold seenB encI; simp only [ByteArray.append_assoc]) (by omega) (by omega) (by omega)
  have e3 := numM_at (s := s) (A := A ++ textE K ++ encB p.toNat ++ encB l.toNat) (B := encI d ++ B) (n := n.toNat) (lo := 0) (hi := 63) (by rw [hs]; unfold seenB encI; simp only [ByteArray.append_assoc]) (by omega) (by omega) (by omega)
  have e4 := numM_at (s := s) (A := A ++ textE K ++ encB p.toNat ++ encB l.toNat ++ encB n.toNat) (B := B) (n := d.toNat) (lo := 1) (hi := 3) (by rw [hs]; unfold seenB encI; simp only [ByteArray.append_assoc]) (by omega) (by omega) (by omega)
  unfold seenM
  simp only [e0, e1, e2, e3, e4]
  rw [encI_nat o1, encI_nat o2, encI_nat o3, encI_nat o4.1]
  unfold seenB encI
  simp only [ByteArray.append_assoc]
theorem digM_at {s A B : ByteArray} {x : Int} (hs : s = A ++ digB x ++ B) (hx : u64Ok x) : digM s ((A.size : Int), 0) = (x, (((A ++ digB x).size : Nat) : Int), 0) := by
  obtain ⟨h1, h2⟩ := hx
  have e1 := numM_at (s := s) (A := A) (B := encI (x % 4294967296) ++ B) (n := (x / 4294967296).toNat) (lo := 0) (hi := 4294967295) (by rw [hs]; unfold digB encI; simp only [ByteArray.append_assoc]) (by omega) (by omega) (by omega)
  have e2 := numM_at (s := s) (A := A ++ encB (x / 4294967296).toNat) (B := B) (n := (x % 4294967296).toNat) (lo := 0) (hi := 4294967295) (by rw [hs]; unfold digB encI; simp only [ByteArray.append_assoc]) (by omega) (by omega) (by omega)
  unfold digM
  simp only [e1, e2]
  have : (((x / 4294967296).toNat * 4294967296 + (x % 4294967296).toNat : Nat) : Int) = x := by omega
  rw [this]
  unfold digB encI
  simp only [ByteArray.append_assoc]
theorem runL_at {α : Type} {s : ByteArray} {e : α → ByteArray} {one : Int × Nat → α × (Int × Nat)} : ∀ (xs : List α) (A B : ByteArray) (l : List α), s = A ++ catB e xs ++ B →
    (∀ x ∈ xs, ∀ A B, s = A ++ e x ++ B → one ((A.size : Int), 0) = (x, (((A ++ e x).size : Nat) : Int), 0)) → runL one xs.length (l, ((A.size : Int), 0)) = (l ++ xs, (((A ++ catB e xs).size : Nat) : Int), 0)
  | [], A, B, l, _, _ => by
    show (l, ((A.size : Int), 0)) = _
    rw [catB_nil, mapp_nil, List.append_nil]
  | x :: xs, A, B, l, hs, h => by
    rw [catB_cons] at hs ⊢
    have h1 := h x (by simp) A (catB e xs ++ B) (by rw [hs]; simp only [ByteArray.append_assoc])
    rw [List.length_cons, runL_next rfl, h1]
    have h2 := runL_at xs (A ++ e x) B (l ++ [x]) (by rw [hs]; simp only [ByteArray.append_assoc]) (fun y hy => h y (by simp [hy]))
    rw [h2, List.append_assoc]
    simp only [ByteArray.append_assoc]
    rfl
theorem listM_at {α : Type} {s A B : ByteArray} {e : α → ByteArray} {one : Int × Nat → α × (Int × Nat)} {xs : List α} (hs : s = A ++ listB e xs ++ B) (hl : xs.length ≤ 4096)
    (h : ∀ x ∈ xs, ∀ A B, s = A ++ e x ++ B → one ((A.size : Int), 0) = (x, (((A ++ e x).size : Nat) : Int), 0)) : listM s one ((A.size : Int), 0) = (xs, (((A ++ listB e xs).size : Nat) : Int), 0) := by
  have e1 := numM_at (s := s) (A := A) (B := catB e xs ++ B) (n := xs.length) (lo := 0) (hi := 4096) (by rw [hs]; unfold listB; simp only [ByteArray.append_assoc]) (by omega) (by omega) hl
  unfold listM
  rw [e1]
  have e2 := runL_at xs (A ++ encB xs.length) B [] (by rw [hs]; unfold listB; simp only [ByteArray.append_assoc]) h
  show runL one xs.length ([], (((A ++ encB xs.length).size : Int), 0)) = _
  rw [e2]
  unfold listB
  simp only [ByteArray.append_assoc, List.nil_append]
theorem all_mem {α : Type} {p : α → Bool} {l : List α} (h : l.all p = true) : ∀ x ∈ l, p x = true := List.all_eq_true.1 h
theorem readM_body {m : Ms} (ok : MsOk m) (h : mayM m = true) : readM m.kind m.frm m.dst (bodyM m) = (m, 0) := by
  unfold mayM mayHead mayLen at h
  simp only [Bool.and_eq_true, decide_eq_true_eq] at h
  obtain ⟨⟨h1, h2, h3, h4, h5, h6⟩, ⟨l1, l2, l3, l4, l5⟩, a1, a2, a3, a4⟩ := h
  obtain ⟨s, hs⟩ : ∃ s, bodyM m = s := ⟨_, rfl⟩
  have hb := hs.symm
  unfold bodyM headM at hb
  rw [flagB_is] at hb
  have q1 := ok.id; have q2 := ok.tgt; have q3 := ok.rng
  obtain ⟨L1, hL1⟩ : ∃ u, listB newsB m.news = u := ⟨_, rfl⟩
  obtain ⟨L2, hL2⟩ : ∃ u, listB textE m.keys = u := ⟨_, rfl⟩
  obtain ⟨L3, hL3⟩ : ∃ u, listB putR m.recs = u := ⟨_, rfl⟩
  obtain ⟨L4, hL4⟩ : ∃ u, listB seenB m.seen = u := ⟨_, rfl⟩
  obtain ⟨L5, hL5⟩ : ∃ u, listB digB m.digs = u := ⟨_, rfl⟩
  obtain ⟨fl, hfl⟩ : ∃ u : Nat, (if m.flag then 1 else 0) = u := ⟨_, rfl⟩
  have hfl1 : fl ≤ 1 := by rw [← hfl]; split <;> omega
  rw [hL1, hL2, hL3, hL4, hL5, hfl] at hb
  have eA : rA s = (m.id.toNat, (((encB m.id.toNat).size : Nat) : Int), 0) := by
    have := numM_at (s := s) (A := ⟨#[]⟩) (B := encI m.tgt ++ encI m.rng ++ encB fl ++ L1 ++ L2 ++ L3 ++ L4 ++ L5) (n := m.id.toNat) (lo := 0) (hi := 4294967295) (by rw [hb, mnil_app]; unfold encI; simp only [ByteArray.append_assoc]) (by omega) (by omega) (by omega)
    rw [mnil_app] at this
    exact this
  have eB : rB s = (m.tgt.toNat, (((encB m.id.toNat ++ encB m.tgt.toNat).size : Nat) : Int), 0) := by
    unfold rB
    rw [eA]
    exact numM_at (B := encI m.rng ++ encB fl ++ L1 ++ L2 ++ L3 ++ L4 ++ L5) (by rw [hb]; unfold encI; simp only [ByteArray.append_assoc]) (by omega) (by omega) (by omega)
  have eC : rC s = (m.rng.toNat, (((encB m.id.toNat ++ encB m.tgt.toNat ++ encB m.rng.toNat).size : Nat) : Int), 0) := by
    unfold rC
    rw [eB]
    exact numM_at (B := encB fl ++ L1 ++ L2 ++ L3 ++ L4 ++ L5) (by rw [hb]; unfold encI; simp only [ByteArray.append_assoc]) (by omega) (by omega) (by omega)
  have eD : rD s = (fl, (((encB m.id.toNat ++ encB m.tgt.toNat ++ encB m.rng.toNat ++ encB fl).size : Nat) : Int), 0) := by
    unfold rD
    rw [eC]
    exact numM_at (B := L1 ++ L2 ++ L3 ++ L4 ++ L5) (by rw [hb]; unfold encI; simp only [ByteArray.append_assoc]) (by omega) (by omega) hfl1
  obtain ⟨A0, hA0⟩ : ∃ u, encB m.id.toNat ++ encB m.tgt.toNat ++ encB m.rng.toNat ++ encB fl = u := ⟨_, rfl⟩
  rw [hA0] at eD
  have hb2 : s = A0 ++ L1 ++ L2 ++ L3 ++ L4 ++ L5 := by rw [hb, ← hA0]; unfold encI; rfl
  have eN : rN s = (m.news, (((A0 ++ L1).size : Nat) : Int), 0) := by
    unfold rN
    rw [eD]
    have := listM_at (s := s) (A := A0) (B := L2 ++ L3 ++ L4 ++ L5) (e := newsB) (one := newsM s) (xs := m.news) (by rw [hb2, hL1]; simp only [ByteArray.append_assoc]) l1 (fun x hx A B hh => newsM_at hh (ok.news x hx) (all_mem a1 x hx))
    rw [hL1] at this
    exact this
  have eK : rK s = (m.keys, (((A0 ++ L1 ++ L2).size : Nat) : Int), 0) := by
    unfold rK
    rw [eN]
    have := listM_at (s := s) (A := A0 ++ L1) (B := L3 ++ L4 ++ L5) (e := textE) (one := keyM s) (xs := m.keys) (by rw [hb2, hL2]; simp only [ByteArray.append_assoc]) l2 (fun x hx A B hh => keyM_at hh (all_mem a2 x hx))
    rw [hL2] at this
    exact this
  have eR : rR s = (m.recs, (((A0 ++ L1 ++ L2 ++ L3).size : Nat) : Int), 0) := by
    unfold rR
    rw [eK]
    have := listM_at (s := s) (A := A0 ++ L1 ++ L2) (B := L4 ++ L5) (e := putR) (one := recM s) (xs := m.recs) (by rw [hb2, hL3]; simp only [ByteArray.append_assoc]) l3 (fun x hx A B hh => recM_at hh (ok.recs x hx) (all_mem a3 x hx))
    rw [hL3] at this
    exact this
  have eS : rS s = (m.seen, (((A0 ++ L1 ++ L2 ++ L3 ++ L4).size : Nat) : Int), 0) := by
    unfold rS
    rw [eR]
    have := listM_at (s := s) (A := A0 ++ L1 ++ L2 ++ L3) (B := L5) (e := seenB) (one := seenM s) (xs := m.seen) (by rw [hb2, hL4]) l4 (fun x hx A B hh => seenM_at hh (ok.seen x hx) (all_mem a4 x hx))
    rw [hL4] at this
    exact this
  have eG : rG s = (m.digs, (((A0 ++ L1 ++ L2 ++ L3 ++ L4 ++ L5).size : Nat) : Int), 0) := by
    unfold rG
    rw [eS]
    have := listM_at (s := s) (A := A0 ++ L1 ++ L2 ++ L3 ++ L4) (B := ⟨#[]⟩) (e := digB) (one := digM s) (xs := m.digs) (by rw [hb2, hL5, mapp_nil]) l5 (fun x hx A B hh => digM_at hh (ok.digs x hx))
    rw [hL5] at this
    exact this
  rw [hs]
  unfold readM
  rw [eG]
  simp only
  rw [if_neg (by simp), if_neg (by rw [← hb2]; simp)]
  unfold msgOf
  rw [eA, eB, eC, eD, eN, eK, eR, eS, eG]
  simp only
  rw [encI_nat q1.1, encI_nat q2.1, encI_nat q3.1]
  have : decide (fl = 1) = m.flag := by rw [← hfl]; cases m.flag <;> rfl
  rw [this]
end Go.Proofs.YtioeidhblbfgmaaGreat
