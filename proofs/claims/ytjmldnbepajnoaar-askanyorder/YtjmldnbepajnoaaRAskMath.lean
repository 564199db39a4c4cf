/- The plain mathematics of requests: who is asked, who has answered what; the best of the answers. No condition but those that are stated. -/
import Derived.Test.YtjmldnbepajnoaaRRec
namespace Go.Proofs.YtjmldnbepajnoaaR
set_option linter.unusedVariables false
set_option linter.unusedSimpArgs false

/- An answer. -/
structure Rp where
  has : Bool
  past : Bool
  r : R
def zeroRp : Rp := ⟨false, false, zeroR⟩
/- A request: who is asked, until when, who has answered, what. -/
structure Aq where
  l : List Int
  u : Int
  come : Nat → Bool
  rp : Nat → Rp
def inL (l : List Int) (n : Int) : Bool := l.any (fun x => x == n)
theorem inL_iff {l : List Int} {n : Int} : inL l n = true ↔ n ∈ l := by
  unfold inL
  rw [List.any_eq_true]
  constructor
  · rintro ⟨x, hx, e⟩
    have : x = n := by simpa using e
    exact this ▸ hx
  · intro h
    exact ⟨n, h, by simp⟩
theorem inL_no {l : List Int} {n : Int} : inL l n = false ↔ n ∉ l := by
  rw [← inL_iff]
  cases inL l n <;> simp
/- Each once. -/
def addO (a : List Int) (n : Int) : List Int := if inL a n then a else a ++ [n]
def onceL (l : List Int) : List Int := l.foldl addO []
theorem addO_mem {a : List Int} {n m : Int} : m ∈ addO a n ↔ m ∈ a ∨ m = n := by
  unfold addO
  cases h : inL a n with
  | true =>
    rw [if_pos rfl]
    exact ⟨.inl, fun e => e.elim id (fun e => by rw [e]; exact inL_iff.1 h)⟩
  | false => rw [if_neg (by simp), List.mem_append]; simp
theorem foldO_mem {m : Int} : ∀ (l a : List Int), m ∈ l.foldl addO a ↔ m ∈ a ∨ m ∈ l
  | [], a => by simp
  | x :: l, a => by
    rw [List.foldl_cons, foldO_mem l, addO_mem, List.mem_cons]
    constructor
    · rintro ((h | h) | h)
      · exact .inl h
      · exact .inr (.inl h)
      · exact .inr (.inr h)
    · rintro (h | h | h)
      · exact .inl (.inl h)
      · exact .inl (.inr h)
      · exact .inr h
theorem foldO_once : ∀ (l a : List Int), a.Nodup → (l.foldl addO a).Nodup
  | [], a, h => h
  | x :: l, a, h => by
    rw [List.foldl_cons]
    refine foldO_once l _ ?_
    unfold addO
    cases e : inL a x with
    | true => exact h
    | false =>
      rw [if_neg (by simp), List.nodup_append]
      refine ⟨h, by simp, fun y hy z hz => ?_⟩
      simp at hz
      subst hz
      rintro rfl
      exact inL_no.1 e hy
theorem foldO_len : ∀ (l a : List Int), (l.foldl addO a).length ≤ a.length + l.length
  | [], a => by simp
  | x :: l, a => by
    rw [List.foldl_cons]
    have h1 := foldO_len l (addO a x)
    have h2 : (addO a x).length ≤ a.length + 1 := by
      unfold addO
      split
      · omega
      · simp
    rw [List.length_cons]
    omega
theorem once_next (l : List Int) (n : Int) : onceL (l ++ [n]) = addO (onceL l) n := by unfold onceL; rw [List.foldl_append]; rfl
theorem once_mem {l : List Int} {m : Int} : m ∈ onceL l ↔ m ∈ l := by unfold onceL; rw [foldO_mem]; simp
theorem once_once (l : List Int) : (onceL l).Nodup := foldO_once l [] (by simp)
theorem once_len (l : List Int) : (onceL l).length ≤ l.length := by have := foldO_len l []; simpa [onceL] using this
def upN {α : Type} (f : Nat → α) (k : Nat) (x : α) : Nat → α := fun q => if q = k then x else f q
/- The calls. -/
def newQ (l : List Int) (u : Int) : Aq := ⟨onceL l, u, fun _ => false, fun _ => zeroRp⟩
def mayT (a : Aq) (n : Int) : Bool := inL a.l n && !a.come n.toNat
def takeQ (a : Aq) (n : Int) (x : Rp) : Aq := if mayT a n then ⟨a.l, a.u, upN a.come n.toNat true, upN a.rp n.toNat x⟩ else a
def allC (a : Aq) : Bool := a.l.all (fun n => a.come n.toNat)
def overQ (a : Aq) (now : Int) : Bool := decide (a.u ≤ now) || allC a
def saysB (a : Aq) (n : Int) : Bool := a.come n.toNat && (a.rp n.toNat).has
def hasL (a : Aq) : List Rp := (a.l.filter (saysB a)).map (fun n => a.rp n.toNat)
def bestF (b x : R) : R := if cmpR b x < 0 then x else b
def bestL : List Rp → R
  | [] => zeroR
  | x :: l => l.foldl (fun b y => bestF b y.r) x.r
def bestQ (a : Aq) : R := bestL (hasL a)
def someQ (a : Aq) : Bool := !(hasL a).isEmpty
def liveL (l : List Rp) (b : R) : Bool := l.any (fun x => (decide (cmpR x.r b = 0) && !x.past) && decide (b.kind = 3))
def liveQ (a : Aq) : Bool := liveL (hasL a) (bestQ a)
def lessB (a : Aq) (b : R) (n : Int) : Bool := a.come n.toNat && (!(a.rp n.toNat).has || decide (cmpR (a.rp n.toNat).r b < 0))
def behQ (a : Aq) : List Int := if someQ a then a.l.filter (lessB a (bestQ a)) else []
/- What is always so of a request whose answers have one key. -/
def RpOk (x : Rp) : Prop := x.r.ok ∧ x.r.key.size ≤ 1000 ∧ x.r.body.size ≤ 3000
structure Ga (K : ByteArray) (a : Aq) : Prop where
  len : a.l.length ≤ 100
  node : ∀ n ∈ a.l, 0 ≤ n ∧ n < 256
  once : a.l.Nodup
  u : 0 ≤ a.u ∧ a.u < 18446744073709551616
  ok : ∀ k, RpOk (a.rp k)
  key : ∀ k, a.come k = true → (a.rp k).has = true → (a.rp k).r.key = K
theorem zeroRp_ok : RpOk zeroRp := by
  unfold RpOk zeroRp zeroR R.ok Stp.ok zero maxLen
  decide
theorem ga_new {K : ByteArray} {l : List Int} {u : Int} (h1 : l.length ≤ 100) (h2 : ∀ n ∈ l, 0 ≤ n ∧ n < 256) (hu : 0 ≤ u ∧ u < 18446744073709551616) : Ga K (newQ l u) :=
  ⟨Nat.le_trans (once_len l) h1, fun n hn => h2 n (once_mem.1 hn), once_once l, hu, fun _ => zeroRp_ok, fun k h => by cases h⟩
theorem take_yes {a : Aq} {n : Int} {x : Rp} (h : mayT a n = true) : takeQ a n x = ⟨a.l, a.u, upN a.come n.toNat true, upN a.rp n.toNat x⟩ := by unfold takeQ; rw [if_pos h]
theorem take_no {a : Aq} {n : Int} {x : Rp} (h : mayT a n = false) : takeQ a n x = a := by unfold takeQ; rw [if_neg (by simp [h])]
theorem take_l (a : Aq) (n : Int) (x : Rp) : (takeQ a n x).l = a.l ∧ (takeQ a n x).u = a.u := by
  cases h : mayT a n with
  | true => rw [take_yes h]; exact ⟨rfl, rfl⟩
  | false => rw [take_no h]; exact ⟨rfl, rfl⟩
theorem ga_take {K : ByteArray} {a : Aq} (g : Ga K a) {n : Int} {x : Rp} (hx : RpOk x) (hk : x.has = true → x.r.key = K) : Ga K (takeQ a n x) := by
  cases h : mayT a n with
  | false => rw [take_no h]; exact g
  | true =>
    rw [take_yes h]
    refine ⟨g.len, g.node, g.once, g.u, fun k => ?_, fun k hc hs => ?_⟩
    · show RpOk (upN a.rp n.toNat x k)
      unfold upN
      split
      · exact hx
      · exact g.ok k
    · have hc2 : upN a.come n.toNat true k = true := hc
      have hs2 : (upN a.rp n.toNat x k).has = true := hs
      show (upN a.rp n.toNat x k).r.key = K
      unfold upN at *
      by_cases e : k = n.toNat
      · rw [if_pos e] at *; exact hk hs2
      · rw [if_neg e] at *; exact g.key k hc2 hs2
theorem has_mem {a : Aq} {x : Rp} (h : x ∈ hasL a) : ∃ n ∈ a.l, a.come n.toNat = true ∧ x.has = true ∧ x = a.rp n.toNat := by
  unfold hasL at h
  obtain ⟨n, hn, e⟩ := List.mem_map.1 h
  obtain ⟨h1, h2⟩ := List.mem_filter.1 hn
  unfold saysB at h2
  simp only [Bool.and_eq_true] at h2
  exact ⟨n, h1, h2.1, by rw [← e]; exact h2.2, e.symm⟩
theorem has_len (a : Aq) : (hasL a).length ≤ a.l.length := by
  unfold hasL
  rw [List.length_map]
  exact List.length_filter_le _ _
theorem has_key {K : ByteArray} {a : Aq} (g : Ga K a) {x : Rp} (h : x ∈ hasL a) : x.r.key = K := by
  obtain ⟨n, _, h2, h3, h4⟩ := has_mem h
  subst h4
  exact g.key _ h2 h3
/- The best is one of them, and behind none. -/
theorem fold_best : ∀ (l : List Rp) (b : R), (l.foldl (fun b y => bestF b y.r) b = b ∨ ∃ x ∈ l, l.foldl (fun b y => bestF b y.r) b = x.r) ∧ cmpR b (l.foldl (fun b y => bestF b y.r) b) ≤ 0 ∧ ∀ x ∈ l, cmpR x.r (l.foldl (fun b y => bestF b y.r) b) ≤ 0
  | [], b => ⟨.inl rfl, by rw [List.foldl_nil, cmpR_self]; omega, by simp⟩
  | y :: l, b => by
    obtain ⟨h1, h2, h3⟩ := fold_best l (bestF b y.r)
    rw [List.foldl_cons]
    have hb : cmpR b (bestF b y.r) ≤ 0 ∧ cmpR y.r (bestF b y.r) ≤ 0 := by
      unfold bestF
      by_cases e : cmpR b y.r < 0
      · rw [if_pos e]; exact ⟨by omega, by rw [cmpR_self]; omega⟩
      · rw [if_neg e]
        have := good_rec.neg b y.r
        exact ⟨by rw [cmpR_self]; omega, by omega⟩
    refine ⟨?_, cmpR_trans hb.1 h2, fun x hx => ?_⟩
    · rcases h1 with h1 | ⟨x, hx, h1⟩
      · rw [h1]
        unfold bestF
        by_cases e : cmpR b y.r < 0
        · rw [if_pos e]; exact .inr ⟨y, by simp, rfl⟩
        · rw [if_neg e]; exact .inl rfl
      · exact .inr ⟨x, List.mem_cons_of_mem _ hx, h1⟩
    · rcases List.mem_cons.1 hx with rfl | hx
      · exact cmpR_trans hb.2 h2
      · exact h3 x hx
theorem best_is {l : List Rp} (h : l ≠ []) : (∃ x ∈ l, bestL l = x.r) ∧ ∀ x ∈ l, cmpR x.r (bestL l) ≤ 0 := by
  cases l with
  | nil => exact absurd rfl h
  | cons y l =>
    obtain ⟨h1, h2, h3⟩ := fold_best l y.r
    refine ⟨?_, fun x hx => ?_⟩
    · rcases h1 with h1 | ⟨x, hx, h1⟩
      · exact ⟨y, by simp, h1⟩
      · exact ⟨x, List.mem_cons_of_mem _ hx, h1⟩
    · rcases List.mem_cons.1 hx with rfl | hx
      · exact h2
      · exact h3 x hx
/- With one key the best is one alone. -/
theorem best_only {l : List Rp} {b : R} {K : ByteArray} (hk : ∀ x ∈ l, x.r.key = K) (h1 : ∃ x ∈ l, b = x.r) (h2 : ∀ x ∈ l, cmpR x.r b ≤ 0) : b = bestL l := by
  obtain ⟨x, hx, rfl⟩ := h1
  have hn : l ≠ [] := by rintro rfl; simp at hx
  obtain ⟨⟨y, hy, e⟩, h3⟩ := best_is hn
  have a1 := h3 x hx
  have a2 := h2 y hy
  rw [e] at a1 ⊢
  have a3 := good_rec.neg x.r y.r
  exact cmpR_eq (by rw [hk x hx, hk y hy]) (by omega)
theorem best_ok {l : List Rp} (h : ∀ x ∈ l, RpOk x) : (bestL l).ok ∧ (bestL l).key.size ≤ 1000 ∧ (bestL l).body.size ≤ 3000 := by
  cases l with
  | nil => exact zeroRp_ok
  | cons y l =>
    obtain ⟨⟨x, hx, e⟩, _⟩ := best_is (l := y :: l) (by simp)
    rw [e]
    exact h x hx
theorem has_ok {K : ByteArray} {a : Aq} (g : Ga K a) : ∀ x ∈ hasL a, RpOk x := fun x hx => by
  obtain ⟨n, _, _, _, h4⟩ := has_mem hx
  subst h4
  exact g.ok _
end Go.Proofs.YtjmldnbepajnoaaR
