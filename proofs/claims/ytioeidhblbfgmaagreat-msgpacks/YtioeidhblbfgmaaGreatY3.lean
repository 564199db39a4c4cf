/- Contracts of the library's strings.Clone, of the program's GetText and of the reference's: the text at a place, the place behind it, the error. They turn nothing that was there. The text has at most 2^47 bytes. The laws that what is got is just what is put, and that texts come back, walked: each answers true and turns nothing that was there. Texts have at most as many bytes as a text may have. The plain mathematics of stamps: how two stamps stand to each other. No condition. The plain mathematics of records: which may be, how two stand to each other, their join. No condition but those that are stated. -/
import Derived.Test.YtioeidhblbfgmaaGreatY2
import Derived.Shelf.Pu.Clone
import Derived.Lib.Bytealg
import Derived.OpenShut

namespace Go.Proofs.YtioeidhblbfgmaaGreat
open Go.ChangeShapes Go.WideShapes Go.ChangeAt Go.RowKit
set_option linter.unusedVariables false
set_option maxRecDepth 100000

/- Where the library's Clone and its types lie in this program. -/




def tripT (g : ByteArray × Nat × Nat) : Value := .tuple #[.string g.1, .int .i64 (g.2.1 : Int), .int .i64 (g.2.2 : Int)]
set_option maxHeartbeats 1600000 in
set_option maxRecDepth 100000 in
theorem GetText_any (s : ByteArray) (p most : Int) (hs : s.size ≤ 140737488355328) (hm : -9223372036854775808 ≤ most ∧ most ≤ 9223372036854775807) (w : World) : Calls Tryz.prog 122 #[.string s, .int .i64 p, .int .i64 most] w fun e w' => e = .returned (tripT (getT s p most)) ∧ Below w.heap.size w w' := by
  have hG := Get_any s p hs
  obtain ⟨r, hr⟩ : ∃ r, r = getT s p most := ⟨_, rfl⟩
  rw [← hr]
  unfold getT at hr
  have HO : Hid (∀ n t, getN s p = (n, t, 0) → t ≤ s.size ∧ n < 4611686018427387904) := fun n t h => by
    obtain ⟨a, _, h2, _, h4, _⟩ := getN_ok s p n t h
    exact ⟨h4, h2⟩
  generalize getN s p = g at *
  obtain ⟨n, t, e⟩ := g
  simp only at hr
  unfold trip at hG
  by_cases he : e = 0
  · subst he
    rw [if_pos rfl] at hr
    obtain ⟨hts, hn⟩ := HO.out n t rfl
    clear HO
    have hti : (t : Int) ≤ (s.size : Int) := by omega
    by_cases h1 : most < 0
    · rw [if_pos (.inl h1)] at hr
      subst hr
      clear hn
      go_enter Tryz.func122, Tryz.ntmps122
      go_wp2_with (go_at_call 120; refine (hG _).mono ?_; rintro e w ⟨rfl, rfl⟩)
      go_ret3
      exact ⟨rfl, Below.refl _ _⟩
    · have hmw : IntKind.u64.wrap most = most := by rw [IntKind.wrap_u64]; omega
      by_cases h2 : most < n
      · rw [if_pos (.inr h2)] at hr
        subst hr
        clear hn hm
        go_enter Tryz.func122, Tryz.ntmps122
        go_wp2_with (go_at_call 120; refine (hG _).mono ?_; rintro e w ⟨rfl, rfl⟩)
        go_ret3
        exact ⟨rfl, Below.refl _ _⟩
      · rw [if_neg (by omega)] at hr
        have hsz : (s.extract t s.size).size = s.size - t := by simp
        have hsl : ∀ w, (Instr.slice 9 (.string s) (some (.int .i64 (t : Int))) none none).run Tryz.prog w = .ok (.string (s.extract t s.size)) w := fun w => by
          rw [run_slice_string_from_if (P := Tryz.prog) w 9 s .i64 (t : Int) Tryz.underlying9, if_pos ⟨by omega, by omega⟩, Int.toNat_natCast]
        by_cases h3 : s.size - t < n
        · rw [if_pos h3] at hr
          subst hr
          generalize s.extract t s.size = S at *
          have h3i : (S.size : Int) < (n : Int) := by omega
          have hsw : IntKind.u64.wrap (S.size : Int) = (S.size : Int) := by rw [IntKind.wrap_u64]; omega
          clear hn hm hsz h3
          go_enter Tryz.func122, Tryz.ntmps122
          go_wp2_with (go_at_call 120; refine (hG _).mono ?_; rintro e w ⟨rfl, rfl⟩)
          go_ret3
          exact ⟨rfl, Below.refl _ _⟩
        · rw [if_neg h3] at hr
          have hee : (s.extract t s.size).extract 0 n = s.extract t (t + n) := by
            apply bytes_ext
            rw [extract_list, extract_list, extract_list, List.drop_zero, List.take_take]
            congr 1
            omega
          have hxs : (s.extract t (t + n)).size ≤ 140737488355328 := by simp; omega
          generalize s.extract t (t + n) = T at *
          subst hr
          generalize s.extract t s.size = S at *
          have h3i : ¬ (S.size : Int) < (n : Int) := by omega
          have hnS : (n : Int) ≤ (S.size : Int) := by omega
          have hsw : IntKind.u64.wrap (S.size : Int) = (S.size : Int) := by rw [IntKind.wrap_u64]; omega
          have hnw : IntKind.i64.wrap (n : Int) = (n : Int) := by rw [IntKind.wrap_i64]; omega
          have htw : IntKind.i64.wrap ((t : Int) + (n : Int)) = (t : Int) + (n : Int) := by rw [IntKind.wrap_i64]; omega
          have hsl2 : ∀ w, (Instr.slice 9 (.string S) none (some (.int .u64 (n : Int))) none).run Tryz.prog w = .ok (.string T) w := fun w => by
            rw [run_slice_string_to_if (P := Tryz.prog) w 9 S .u64 (n : Int) Tryz.underlying9, if_pos ⟨by omega, by omega⟩, Int.toNat_natCast, hee]
          have hcl := clone_any T hxs
          clear hn hm hsz h3 hee hxs
          go_enter Tryz.func122, Tryz.ntmps122
          go_wp2_with (first | (go_at_call 120; refine (hG _).mono ?_; rintro e w ⟨rfl, rfl⟩) | (go_at_call 71; refine (hcl _).mono ?_; rintro e w1 ⟨rfl, hb1⟩))
          go_ret3
          exact ⟨rfl, hb1⟩
  · rw [if_neg he] at hr
    subst hr
    have hei : ¬ (e : Int) = 0 := by omega
    clear HO he
    go_enter Tryz.func122, Tryz.ntmps122
    go_wp2_with (go_at_call 120; refine (hG _).mono ?_; rintro e w ⟨rfl, rfl⟩)
    go_ret3
    exact ⟨rfl, Below.refl _ _⟩
end Go.Proofs.YtioeidhblbfgmaaGreat


namespace Go.Proofs.YtioeidhblbfgmaaGreat
open Go.ChangeShapes Go.WideShapes Go.ChangeAt Go.RowKit
set_option linter.unusedVariables false
set_option maxRecDepth 100000

theorem extract_join (s : ByteArray) (a t u : Nat) (h1 : a ≤ t) (h2 : t ≤ u) : s.extract a u = s.extract a t ++ s.extract t u := by
  apply bytes_ext
  rw [ByteArray.data_append, Array.toList_append, extract_list, extract_list, extract_list]
  rw [show u - a = (t - a) + (u - t) by omega, List.take_add, List.drop_drop, show a + (t - a) = t by omega]
theorem textE_size (t : ByteArray) : (textE t).size = wide (kindOf t.size) + t.size := by
  unfold textE
  rw [ByteArray.size_append]
  congr 1
  exact enc_length _
theorem getT_ok (s : ByteArray) (p most : Int) (T : ByteArray) (u : Nat) (h : getT s p most = (T, u, 0)) : ∃ a : Nat, p = a ∧ a ≤ u ∧ u ≤ s.size ∧ T.size ≤ s.size ∧ s.extract a u = textE T := by
  unfold getT at h
  split at h
  · rename_i h0
    generalize hg : getN s p = g at h h0
    obtain ⟨n, t, e⟩ := g
    simp only at h h0
    subst h0
    obtain ⟨a, h1, h2, h3, h4, h5⟩ := getN_ok s p n t hg
    split at h
    · simp at h
    · split at h
      · simp at h
      · rename_i hA hB
        simp only [Prod.mk.injEq] at h
        obtain ⟨rfl, rfl, _⟩ := h
        refine ⟨a, h1, by omega, by omega, by simp; omega, ?_⟩
        have hs : (s.extract t (t + n)).size = n := by simp; omega
        rw [extract_join s a t (t + n) (by omega) (by omega), h5, textE, hs]
  · rename_i h0
    simp only [Prod.mk.injEq] at h
    omega
theorem getT_put (A t B : ByteArray) (most : Int) (ht : t.size < 4611686018427387904) : getT (A ++ textE t ++ B) (A.size : Int) most = if most < (t.size : Int) then (⟨#[]⟩, 0, 4) else (t, A.size + (textE t).size, 0) := by
  have e : A ++ textE t ++ B = A ++ ⟨(enc t.size).toArray⟩ ++ (t ++ B) := by
    apply bytes_ext
    simp [textE]
  have hg := getN_put A (t ++ B) t.size ht
  rw [← e] at hg
  unfold getT
  rw [hg]
  simp only
  rw [if_pos trivial]
  by_cases h : most < (t.size : Int)
  · rw [if_pos (.inr h), if_pos h]
  · have hs := textE_size t
    have hz : (A ++ textE t ++ B).size = A.size + (textE t).size + B.size := by simp [ByteArray.size_append]
    rw [if_neg (by omega), if_neg (by omega), if_neg h]
    have hx : (A ++ textE t ++ B).extract (A.size + wide (kindOf t.size)) (A.size + wide (kindOf t.size) + t.size) = t := by
      apply bytes_ext
      rw [extract_list, Nat.add_sub_cancel_left]
      have hd : (A ++ textE t ++ B).data.toList = (A.data.toList ++ enc t.size) ++ (t.data.toList ++ B.data.toList) := by
        simp [textE]
      have hl : (A.data.toList ++ enc t.size).length = A.size + wide (kindOf t.size) := by
        rw [List.length_append, enc_length]; rfl
      rw [hd, ← hl, List.drop_left]
      exact List.take_left' rfl
    rw [hx, hs]
    simp
    omega


end Go.Proofs.YtioeidhblbfgmaaGreat


namespace Go.Proofs.YtioeidhblbfgmaaGreat

structure Stp where
  p : Int
  l : Int
  n : Int
theorem Stp.ext {a b : Stp} (h1 : a.p = b.p) (h2 : a.l = b.l) (h3 : a.n = b.n) : a = b := by
  cases a; cases b; simp_all
/- A stamp that can be. -/
def Stp.ok (s : Stp) : Prop := 0 ≤ s.p ∧ s.p < 18446744073709551616 ∧ 0 ≤ s.l ∧ s.l < 4294967296 ∧ 0 ≤ s.n ∧ s.n < 256
def zero : Stp := ⟨0, 0, 0⟩
theorem zero_ok : zero.ok := by unfold zero Stp.ok; simp
/- It stands ahead. -/
def Lt (a b : Stp) : Prop := a.p < b.p ∨ (a.p = b.p ∧ (a.l < b.l ∨ (a.l = b.l ∧ a.n < b.n)))
def lt (a b : Stp) : Bool := decide (a.p < b.p) || (decide (a.p = b.p) && (decide (a.l < b.l) || (decide (a.l = b.l) && decide (a.n < b.n))))
theorem lt_iff (a b : Stp) : lt a b = true ↔ Lt a b := by
  unfold lt Lt
  simp
theorem lt_false (a b : Stp) : lt a b = false ↔ ¬ Lt a b := by
  rw [← lt_iff]; simp
def same (a b : Stp) : Bool := decide (a.p = b.p) && (decide (a.l = b.l) && decide (a.n = b.n))
theorem same_iff (a b : Stp) : same a b = true ↔ a = b := by
  unfold same
  constructor
  · intro h; simp at h; exact Stp.ext h.1 h.2.1 h.2.2
  · rintro rfl; simp
theorem same_false (a b : Stp) : same a b = false ↔ a ≠ b := by
  rw [ne_eq, ← same_iff]; simp
theorem lt_irrefl (a : Stp) : ¬ Lt a a := by unfold Lt; omega
theorem lt_asymm {a b : Stp} (h : Lt a b) : ¬ Lt b a := by unfold Lt at *; omega
theorem lt_trans {a b c : Stp} (h : Lt a b) (k : Lt b c) : Lt a c := by unfold Lt at *; omega
theorem lt_total {a b : Stp} (h : ¬ Lt a b) (k : ¬ Lt b a) : a = b := by
  apply Stp.ext <;> (unfold Lt at *; omega)
/- -1, 0, 1. -/
def cmp (a b : Stp) : Int := if lt a b = true then -1 else if lt b a = true then 1 else 0
theorem cmp_lt {a b : Stp} (h : Lt a b) : cmp a b = -1 := by unfold cmp; rw [if_pos ((lt_iff a b).2 h)]
theorem cmp_gt {a b : Stp} (h : Lt b a) : cmp a b = 1 := by
  unfold cmp; rw [if_neg (by rw [lt_iff]; exact lt_asymm h), if_pos ((lt_iff b a).2 h)]
theorem cmp_self (a : Stp) : cmp a a = 0 := by
  unfold cmp; rw [if_neg (by rw [lt_iff]; exact lt_irrefl a), if_neg (by rw [lt_iff]; exact lt_irrefl a)]
theorem cmp_neg (a b : Stp) : cmp b a = - cmp a b := by
  by_cases h : Lt a b
  · rw [cmp_lt h, cmp_gt h]; rfl
  · by_cases k : Lt b a
    · rw [cmp_lt k, cmp_gt k]
    · rw [lt_total h k, cmp_self]; rfl
theorem cmp_zero (a b : Stp) : cmp a b = 0 ↔ a = b := by
  by_cases h : Lt a b
  · rw [cmp_lt h]; constructor
    · intro e; omega
    · rintro rfl; exact absurd h (lt_irrefl _)
  · by_cases k : Lt b a
    · rw [cmp_gt k]; constructor
      · intro e; omega
      · rintro rfl; exact absurd k (lt_irrefl _)
    · have := lt_total h k; subst this; simp [cmp_self]
theorem cmp_cases (a b : Stp) : cmp a b = -1 ∨ cmp a b = 0 ∨ cmp a b = 1 := by
  by_cases h : Lt a b
  · exact .inl (cmp_lt h)
  · by_cases k : Lt b a
    · exact .inr (.inr (cmp_gt k))
    · have := lt_total h k; subst this; exact .inr (.inl (cmp_self _))

end Go.Proofs.YtioeidhblbfgmaaGreat


namespace Go.Proofs.YtioeidhblbfgmaaGreat
set_option linter.unusedVariables false
set_option maxRecDepth 100000
set_option linter.unusedSimpArgs false

structure R where
  key : ByteArray
  s : Stp
  kind : Int
  flags : Int
  exp : Int
  body : ByteArray
theorem R.ext' {a b : R} (h1 : a.key = b.key) (h2 : a.s = b.s) (h3 : a.kind = b.kind) (h4 : a.flags = b.flags) (h5 : a.exp = b.exp) (h6 : a.body = b.body) : a = b := by
  cases a; cases b; simp_all
/- A record that can be handed in. -/
def R.ok (r : R) : Prop := r.key.size ≤ maxLen ∧ r.s.ok ∧ (0 ≤ r.kind ∧ r.kind < 256) ∧ (0 ≤ r.flags ∧ r.flags < 4294967296) ∧ (0 ≤ r.exp ∧ r.exp < 18446744073709551616) ∧ r.body.size ≤ maxLen
def zeroR : R := ⟨⟨#[]⟩, zero, 0, 0, 0, ⟨#[]⟩⟩
/- A byte that may stand in a key. -/
def good (c : UInt8) : Bool := decide (32 < c.toNat) && decide (c.toNat ≠ 127)
def keyMay (k : ByteArray) : Bool := decide (1 ≤ k.size) && decide (k.size ≤ 250) && k.data.toList.all good
def stampMay (s : Stp) : Bool := decide (s.p ≤ 281474976710655) && decide (s.n < 64)
def contentMay (r : R) : Bool :=
  if r.kind = 1 ∨ r.kind = 2 then decide (r.flags = 0) && (decide (r.exp = 0) && decide (r.body.size = 0))
  else if r.kind = 3 then decide (r.exp ≤ 281474976710655) && decide (r.body.size ≤ 1024)
  else false
def mayR (r : R) : Bool := keyMay r.key && (stampMay r.s && contentMay r)
def liveR (r : R) (t : Int) : Bool := decide (r.kind = 3) && (decide (r.exp = 0) || decide (t < r.exp))

/- -1, 0, 1. -/
def cmpI (a b : Int) : Int := if a < b then -1 else if b < a then 1 else 0
def cmpB (a b : ByteArray) : Int := Lib.compareBytes a.data.toList b.data.toList
def orI (x y : Int) : Int := if x = 0 then y else x
def cmpR (a b : R) : Int := orI (cmp a.s b.s) (orI (cmpI a.kind b.kind) (orI (cmpB a.body b.body) (orI (cmpI a.flags b.flags) (cmpI a.exp b.exp))))
def joinR (a b : R) : R := if cmpR a b < 0 then b else a

/- What a comparison is: it turns its sign; it goes on. -/
structure Good {α : Type} (c : α → α → Int) : Prop where
  one : ∀ a b, c a b = -1 ∨ c a b = 0 ∨ c a b = 1
  neg : ∀ a b, c b a = - c a b
  tr : ∀ a b d, c a b ≤ 0 → c b d ≤ 0 → c a d ≤ 0 ∧ (c a d < 0 ↔ c a b < 0 ∨ c b d < 0)
theorem good_or {α : Type} {c d : α → α → Int} (hc : Good c) (hd : Good d) : Good fun a b => orI (c a b) (d a b) := by
  refine ⟨fun a b => ?_, fun a b => ?_, fun a b e h1 h2 => ?_⟩
  · have := hc.one a b; have := hd.one a b
    unfold orI; split <;> omega
  · have := hc.neg a b; have := hd.neg a b
    unfold orI
    by_cases h : c a b = 0
    · rw [if_pos h, if_pos (by omega)]; omega
    · rw [if_neg h, if_neg (by omega)]; omega
  · have t1 := hc.tr a b e
    have t2 := hd.tr a b e
    unfold orI at *
    by_cases k1 : c a b = 0
    · rw [if_pos k1] at h1
      by_cases k2 : c b e = 0
      · rw [if_pos k2] at h2
        have k3 : c a e = 0 := by
          have := (t1 (by omega) (by omega)).1
          have := hc.tr e b a (by rw [hc.neg b e]; omega) (by rw [hc.neg a b]; omega)
          rw [hc.neg a e] at this
          omega
        rw [if_pos k1, if_pos k2, if_pos k3]
        exact t2 h1 h2
      · rw [if_neg k2] at h2
        have := t1 (by omega) (by omega)
        rw [if_pos k1, if_neg k2]
        have k3 : c a e < 0 := this.2.2 (.inr (by omega))
        rw [if_neg (by omega)]
        refine ⟨by omega, fun _ => .inr (by omega), fun _ => k3⟩
    · rw [if_neg k1] at h1
      have h2' : c b e ≤ 0 := by
        by_cases k2 : c b e = 0
        · omega
        · rw [if_neg k2] at h2; omega
      have := t1 (by omega) h2'
      have k3 : c a e < 0 := this.2.2 (.inl (by omega))
      rw [if_neg k1, if_neg (by omega)]
      exact ⟨by omega, fun _ => .inl (by omega), fun _ => k3⟩
theorem good_on {α β : Type} {c : β → β → Int} (hc : Good c) (f : α → β) : Good fun a b => c (f a) (f b) :=
  ⟨fun a b => hc.one _ _, fun a b => hc.neg _ _, fun a b d => hc.tr _ _ _⟩
theorem cmpI_cases (a b : Int) : (a < b ∧ cmpI a b = -1) ∨ (a = b ∧ cmpI a b = 0) ∨ (b < a ∧ cmpI a b = 1) := by
  unfold cmpI
  by_cases h : a < b
  · rw [if_pos h]; exact .inl ⟨h, rfl⟩
  · rw [if_neg h]
    by_cases k : b < a
    · rw [if_pos k]; exact .inr (.inr ⟨k, rfl⟩)
    · rw [if_neg k]; exact .inr (.inl ⟨by omega, rfl⟩)
theorem good_int : Good cmpI := by
  refine ⟨fun a b => ?_, fun a b => ?_, fun a b d h1 h2 => ?_⟩
  · have := cmpI_cases a b; omega
  · have := cmpI_cases a b; have := cmpI_cases b a; omega
  · have := cmpI_cases a b; have := cmpI_cases b d; have := cmpI_cases a d
    omega
theorem cmpI_zero (a b : Int) : cmpI a b = 0 ↔ a = b := by
  have := cmpI_cases a b; omega
theorem cmp_parts (a b : Stp) : (Lt a b ∧ cmp a b = -1) ∨ (a = b ∧ cmp a b = 0) ∨ (Lt b a ∧ cmp a b = 1) := by
  by_cases h : Lt a b
  · exact .inl ⟨h, cmp_lt h⟩
  · by_cases k : Lt b a
    · exact .inr (.inr ⟨k, cmp_gt k⟩)
    · have := lt_total h k; subst this; exact .inr (.inl ⟨rfl, cmp_self _⟩)
theorem good_stamp : Good cmp := by
  refine ⟨cmp_cases, fun a b => cmp_neg a b, fun a b d h1 h2 => ?_⟩
  rcases cmp_parts a b with ⟨p1, e1⟩ | ⟨p1, e1⟩ | ⟨p1, e1⟩
  · rcases cmp_parts b d with ⟨p2, e2⟩ | ⟨p2, e2⟩ | ⟨p2, e2⟩
    · rw [cmp_lt (lt_trans p1 p2)]; omega
    · subst p2; omega
    · omega
  · subst p1; omega
  · omega
theorem u8_cases (a b : UInt8) : (a < b) ∨ (a = b) ∨ (b < a) := by
  simp only [UInt8.lt_iff_toNat_lt, ← UInt8.toNat_inj]; omega
theorem cb_one : ∀ a b : List UInt8, Lib.compareBytes a b = -1 ∨ Lib.compareBytes a b = 0 ∨ Lib.compareBytes a b = 1
  | [], [] => by simp [Lib.compareBytes]
  | [], _ :: _ => by simp [Lib.compareBytes]
  | _ :: _, [] => by simp [Lib.compareBytes]
  | x :: a, y :: b => by
    have := cb_one a b
    unfold Lib.compareBytes
    split
    · simp
    · split
      · simp
      · exact this
theorem cb_neg : ∀ a b : List UInt8, Lib.compareBytes b a = - Lib.compareBytes a b
  | [], [] => by simp [Lib.compareBytes]
  | [], _ :: _ => by simp [Lib.compareBytes]
  | _ :: _, [] => by simp [Lib.compareBytes]
  | x :: a, y :: b => by
    have ih := cb_neg a b
    unfold Lib.compareBytes
    rcases u8_cases x y with h | rfl | h
    · have k : ¬ y < x := by rw [UInt8.lt_iff_toNat_lt] at *; omega
      simp [h, k]
    · have k : ¬ x < x := by rw [UInt8.lt_iff_toNat_lt]; omega
      simp only [k, if_false]; exact ih
    · have k : ¬ x < y := by rw [UInt8.lt_iff_toNat_lt] at *; omega
      simp [h, k]
theorem cb_zero : ∀ a b : List UInt8, Lib.compareBytes a b = 0 ↔ a = b
  | [], [] => by simp [Lib.compareBytes]
  | [], _ :: _ => by simp [Lib.compareBytes]
  | _ :: _, [] => by simp [Lib.compareBytes]
  | x :: a, y :: b => by
    have ih := cb_zero a b
    unfold Lib.compareBytes
    rcases u8_cases x y with h | rfl | h
    · have k : x ≠ y := by rintro rfl; rw [UInt8.lt_iff_toNat_lt] at h; omega
      simp [h, k]
    · have k : ¬ x < x := by rw [UInt8.lt_iff_toNat_lt]; omega
      simp only [k, if_false, ih, List.cons.injEq, true_and]
    · have k : ¬ x < y := by rw [UInt8.lt_iff_toNat_lt] at *; omega
      have k2 : x ≠ y := by rintro rfl; rw [UInt8.lt_iff_toNat_lt] at h; omega
      simp [h, k, k2]
theorem cb_tr : ∀ a b d : List UInt8, Lib.compareBytes a b ≤ 0 → Lib.compareBytes b d ≤ 0 → Lib.compareBytes a d ≤ 0 ∧ (Lib.compareBytes a d < 0 ↔ Lib.compareBytes a b < 0 ∨ Lib.compareBytes b d < 0)
  | [], b, [] => by
    cases b with
    | nil => simp [Lib.compareBytes]
    | cons y b => simp [Lib.compareBytes]
  | [], b, z :: d => by
    cases b with
    | nil => simp [Lib.compareBytes]
    | cons y b => simp [Lib.compareBytes]
  | x :: a, [], d => by simp [Lib.compareBytes]
  | x :: a, y :: b, [] => by simp [Lib.compareBytes]
  | x :: a, y :: b, z :: d => by
    have ih := cb_tr a b d
    intro h1 h2
    unfold Lib.compareBytes at h1 h2 ⊢
    simp only [UInt8.lt_iff_toNat_lt] at *
    rcases Nat.lt_trichotomy x.toNat y.toNat with h | h | h
    · rcases Nat.lt_trichotomy y.toNat z.toNat with k | k | k
      · rw [if_pos (by omega), if_pos h, if_pos k]; omega
      · rw [if_pos (by omega), if_pos h]; omega
      · rw [if_neg (by omega), if_pos k] at h2; omega
    · rcases Nat.lt_trichotomy y.toNat z.toNat with k | k | k
      · rw [if_pos (by omega), if_pos k]; omega
      · rw [if_neg (by omega), if_neg (by omega)] at h1 h2
        rw [if_neg (by omega), if_neg (by omega), if_neg (by omega), if_neg (by omega), if_neg (by omega), if_neg (by omega)]
        exact ih h1 h2
      · rw [if_neg (by omega), if_pos k] at h2; omega
    · rw [if_neg (by omega), if_pos h] at h1; omega
theorem good_bytes : Good cmpB := ⟨fun a b => cb_one _ _, fun a b => cb_neg _ _, fun a b d => cb_tr _ _ _⟩
theorem cmpB_zero (a b : ByteArray) : cmpB a b = 0 ↔ a = b := by
  unfold cmpB
  rw [cb_zero, Array.toList_inj]
  constructor
  · intro h; cases a; cases b; simp_all
  · rintro rfl; rfl
theorem good_rec : Good cmpR :=
  good_or (good_on good_stamp R.s) (good_or (good_on good_int R.kind) (good_or (good_on good_bytes R.body) (good_or (good_on good_int R.flags) (good_on good_int R.exp))))
theorem orI_zero (x y : Int) : orI x y = 0 ↔ x = 0 ∧ y = 0 := by
  unfold orI; split <;> omega
theorem cmpR_zero (a b : R) : cmpR a b = 0 ↔ a.s = b.s ∧ a.kind = b.kind ∧ a.body = b.body ∧ a.flags = b.flags ∧ a.exp = b.exp := by
  unfold cmpR
  rw [orI_zero, orI_zero, orI_zero, orI_zero, cmp_zero, cmpI_zero, cmpB_zero, cmpI_zero, cmpI_zero]
theorem cmpR_same (a b : R) : cmpR a b = 0 ↔ a = { b with key := a.key } := by
  rw [cmpR_zero]
  constructor
  · rintro ⟨h1, h2, h3, h4, h5⟩; exact R.ext' rfl h1 h2 h4 h5 h3
  · intro h; rw [h]; simp
theorem cmpR_eq {a b : R} (hk : a.key = b.key) (h : cmpR a b = 0) : a = b := by
  obtain ⟨h1, h2, h3, h4, h5⟩ := (cmpR_zero a b).1 h
  exact R.ext' hk h1 h2 h4 h5 h3
theorem cmpR_self (a : R) : cmpR a a = 0 := (cmpR_zero a a).2 ⟨rfl, rfl, rfl, rfl, rfl⟩
theorem join_self (a : R) : joinR a a = a := by unfold joinR; split <;> rfl
theorem join_ge (a b : R) : cmpR a (joinR a b) ≤ 0 ∧ cmpR b (joinR a b) ≤ 0 := by
  unfold joinR
  have := good_rec.neg a b
  have h1 := cmpR_self a
  have h2 := cmpR_self b
  split <;> omega
theorem join_or (a b : R) : joinR a b = a ∨ joinR a b = b := by
  unfold joinR; split
  · exact .inr rfl
  · exact .inl rfl
theorem cmpR_trans {a b c : R} (h : cmpR a b ≤ 0) (k : cmpR b c ≤ 0) : cmpR a c ≤ 0 := (good_rec.tr a b c h k).1
end Go.Proofs.YtioeidhblbfgmaaGreat
