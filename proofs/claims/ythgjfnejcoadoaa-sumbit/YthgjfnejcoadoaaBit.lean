/- The law that texts which differ in one bit have unlike sums, walked: it answers true and turns nothing that was there. Texts have at most as many bytes as a text may have. -/
import Derived.Test.YthgjfnejcoadoaaState
import Derived.Laws.IdiomStrings
namespace Go.Proofs.Ythgjfnejcoadoaa
open Go.ChangeShapes Go.WideShapes Go.ChangeAt Go.RowKit
set_option linter.unusedVariables false

/- The bytes of a text, laid as a row: what is kept, what the cells hold. -/
theorem bytes_in (W : World) (bs : List Nat) (w : World) (s : ByteArray) (cap : Nat) (h : St W bs w) (o : Nat × Nat) (ho : s.size ≤ o.1) :
    St W bs (w.drew.alloc (.cells (bytesRow s cap) 5 o)) ∧ w.heap.size ∉ bs ∧ (w.drew.alloc (.cells (bytesRow s cap) 5 o)).heap.size = w.heap.size + 1 ∧
      (∀ j (hj : j < s.size), (w.drew.alloc (.cells (bytesRow s cap) 5 o)).cell? ⟨w.heap.size, j, none⟩ = some (.int .u8 (s[j].toNat : Int))) ∧
      ∀ j, j < s.size → (w.drew.alloc (.cells (bytesRow s cap) 5 o)).frozen? ⟨w.heap.size, j, none⟩ = false := by
  have hb : (w.drew.alloc (.cells (bytesRow s cap) 5 o)).heap[w.heap.size]? = some (.cells (bytesRow s cap) 5 o) := by
    show (w.heap.push _)[w.heap.size]? = _
    simp
  have hk : Kept w (w.drew.alloc (.cells (bytesRow s cap) 5 o)) := by
    refine kept_of rfl rfl ?_ (fun i hi => Below.heap_alloc w.drew _ i hi)
    show _ ≤ (w.heap.push _).size
    simp
  refine ⟨(st_kept h hk).1, fun hm => by have := (h.2 _ hm).2.1; omega, ?_, fun j hj => ?_, fun j hj => ?_⟩
  · show (w.heap.push _).size = _; simp
  · have e : (bytesRow s cap)[j]? = some (.int .u8 (s[j].toNat : Int)) := by
      unfold bytesRow
      have hj' : j < s.data.size := hj
      rw [Array.getElem?_append_left (by simpa using hj'), Array.getElem?_map, Array.getElem?_eq_getElem hj']
      rfl
    unfold World.cell?
    rw [hb]
    exact e
  · unfold World.frozen?
    rw [hb]
    show (decide (o.1 ≤ j) && decide (j < o.2)) = false
    rw [decide_eq_false (by omega)]
    rfl
theorem st_own {W : World} {bs : List Nat} {w : World} {B : Nat} (h : St W bs w) (hB : W.heap.size ≤ B) (hn : B ∉ bs) (o : Nat) (v : Value) : St W bs (w.setCell ⟨B, o, none⟩ v) := by
  have hz : (w.setCell ⟨B, o, none⟩ v).heap.size = w.heap.size := by simp [World.setCell]
  refine ⟨kept_of (show w.os = W.os from kept_os h.1) (show w.output = W.output from kept_output h.1) (by rw [hz]; exact h.1.2) (fun i hi => (Below.heap_setCell _ _ _ _ (by show i ≠ B; omega)).trans (kept_block h.1 hi)), fun b hb => ?_⟩
  obtain ⟨k1, k2, k3⟩ := h.2 b hb
  exact ⟨k1, by omega, tab_block k3 (Below.heap_setCell _ _ _ _ (fun e => hn (by rw [← show b = B from e]; exact hb)))⟩
theorem flip (a : UInt8) (q : Nat) (hq : q < 8) : ∃ c : UInt8, c ≠ a ∧ bits .xor .u8 (a.toNat : Int) ((2 : Int) ^ q % 256) = (c.toNat : Int) := by
  have h2 : 2 ^ q < 256 := Nat.pow_lt_pow_right (a := 2) (n := 8) (by omega) hq
  have h0 : 0 < 2 ^ q := Nat.pow_pos (by omega)
  have e : ((2 : Int) ^ q % 256) = ((2 ^ q : Nat) : Int) := by
    rw [Int.natCast_pow]
    have : (((2 ^ q : Nat) : Nat) : Int) = (2 : Int) ^ q := by rw [Int.natCast_pow]; rfl
    omega
  have hx : a.toNat ^^^ 2 ^ q < 256 := Nat.xor_lt_two_pow (n := 8) (u8_lt a) h2
  refine ⟨UInt8.ofNat (a.toNat ^^^ 2 ^ q), fun hc => ?_, ?_⟩
  · have := congrArg UInt8.toNat hc
    rw [UInt8.toNat_ofNat', Nat.mod_eq_of_lt hx] at this
    have h3 : a.toNat ^^^ (a.toNat ^^^ 2 ^ q) = 0 := by rw [this, Nat.xor_self]
    rw [← Nat.xor_assoc, Nat.xor_self, Nat.zero_xor] at h3
    omega
  · rw [e, u8_xor_nat _ _ (u8_lt a) h2, UInt8.toNat_ofNat', Nat.mod_eq_of_lt hx]
theorem more_set (l : List UInt8) (p : Nat) (hp : p < l.length) (c : UInt8) (hc : c ≠ l[p]) : more 0 (l.set p c) ≠ more 0 l := by
  rw [List.set_eq_take_append_cons_drop, if_pos hp]
  have e : l = l.take p ++ l[p] :: l.drop (p + 1) := by rw [List.getElem_cons_drop, List.take_append_drop]
  intro h
  exact more_one (x := 0) (by omega) (l.take p) (l.drop (p + 1)) hc (h.trans (congrArg _ e))
theorem bit_walk (s : ByteArray) (at_ bit : Int) (hs : s.size ≤ maxLen) (hat : (Lit.int .u16 at_).wf = true) (hbit : (Lit.int .u8 bit).wf = true) (w : World) :
    Calls Try.prog 6 #[.string s, .int .u16 at_, .int .u8 bit] w fun e w' => e = .returned (.bool true) ∧ Kept w w' := by
  unfold maxLen at hs
  by_cases h1 : 5000 < s.size
  · have h1' : (5000 : Int) < (s.size : Int) := by omega
    go_enter Try.func6, Try.ntmps6
    go_wp2_with (go_at_call 8; refine (fixed_any _).mono ?_; rintro e w' ⟨rfl, hG⟩)
    go_ret
    exact ⟨rfl, kept_grown hG⟩
  have h1' : ¬ (5000 : Int) < (s.size : Int) := by omega
  by_cases h2 : s.size = 0
  · have h2' : (s.size : Int) = 0 := by omega
    go_enter Try.func6, Try.ntmps6
    go_wp2_with (go_at_call 8; refine (fixed_any _).mono ?_; rintro e w' ⟨rfl, hG⟩)
    go_ret
    exact ⟨rfl, kept_grown hG⟩
  have h2' : ¬ (s.size : Int) = 0 := by omega
  have hs' : Hid (s.size ≤ maxLen) := by show _ ≤ _; unfold maxLen; omega
  have S0 : St w [] w := St.start w
  have ha := bounds_u16 hat
  have hb := bounds_u8 hbit
  clear hat hbit
  obtain ⟨p, hp, hpl⟩ : ∃ p : Nat, at_ % (s.size : Int) = (p : Int) ∧ p < s.size :=
    ⟨(at_ % (s.size : Int)).toNat, by have := Int.emod_nonneg at_ h2'; omega, by have := Int.emod_nonneg at_ h2'; have := Int.emod_lt_of_pos at_ (show (0 : Int) < s.size by omega); omega⟩
  obtain ⟨q, hq, hql⟩ : ∃ q : Nat, bit % 8 = (q : Int) ∧ q < 8 := ⟨(bit % 8).toNat, by omega, by omega⟩
  go_enter Try.func6, Try.ntmps6
  go_wp2_with fail
  refine (new_in w [] _ S0).mono ?_
  rintro e w1 ⟨t, rfl, -, S1, -, -⟩
  have hcv := run_bytes_of_string (P := Try.prog) w1 9 33 5 s Try.underlying9 Try.underlying33 Try.underlying5
  generalize grownCap w1 s.size 0 5 = cap at *
  obtain ⟨S2, hnb, hz2, hc2, hf2⟩ := bytes_in w [t] w1 s cap S1 ((bytesRow s cap).size, (bytesRow s cap).size + 1) (by simp [bytesRow])
  generalize w1.drew.alloc (.cells (bytesRow s cap) 5 ((bytesRow s cap).size, (bytesRow s cap).size + 1)) = w2 at *
  have hcp := hc2 p hpl
  have hfp := hf2 p hpl
  have HC : Hid (∀ j (hj : j < s.size), w2.cell? ⟨w1.heap.size, j, none⟩ = some (.int .u8 (s[j].toNat : Int))) := hc2
  clear hc2 hf2
  obtain ⟨c, hcne, hx⟩ := flip s[p] q hql
  obtain ⟨B, hB⟩ : ∃ B, B = w1.heap.size := ⟨_, rfl⟩
  rw [← hB] at hcv hcp hfp HC hnb hz2
  have hBW : w.heap.size ≤ B := by have := S1.1.2; omega
  clear hB
  have S3 := st_own S2 hBW hnb p (.int .u8 (c.toNat : Int))
  have HL : Hid (∀ j (hj : j < (s.data.toList.set p c).length), (w2.setCell ⟨B, p, none⟩ (.int .u8 (c.toNat : Int))).cell? ⟨B, j, none⟩ = some (.int .u8 ((s.data.toList.set p c)[j].toNat : Int))) := by
    intro j hj
    have hj' : j < s.size := by simpa using hj
    by_cases e : p = j
    · subst e
      rw [List.getElem_set_self]
      exact World.cell?_setCell_same _ _ _ hcp
    · rw [List.getElem_set_ne e, World.cell?_setCell_other _ ⟨B, p, none⟩ ⟨B, j, none⟩ _ (by simp <;> omega)]
      exact HC.out j hj'
  have hz3 : (w2.setCell ⟨B, p, none⟩ (.int .u8 (c.toNat : Int))).heap.size = w2.heap.size := by simp [World.setCell]
  have HN : Hid (more 0 (s.data.toList.set p c) ≠ more 0 s.data.toList) := more_set _ p (by simpa using hpl) c hcne
  have HLen : Hid ((s.data.toList.set p c).length = s.size) := by show _ = _; simp
  generalize s.data.toList.set p c = l at *
  go_wp2_with fail
  generalize w2.setCell ⟨B, p, none⟩ (.int .u8 (c.toNat : Int)) = w3 at *
  refine (fixed_in w [t] _ S3).mono ?_
  rintro e w4 ⟨rfl, S4, R4⟩
  have hblk : w4.heap[B]? = w3.heap[B]? := R4.2 B (by omega) hnb
  have hcv2 := run_convert_bytes_back (P := Try.prog) w4 33 9 5 ⟨B, 0, none⟩ cap l Try.underlying33 Try.underlying5 Try.underlying9 (fun j hj => by
    have := (World.cell?_of_block (w := w3) (w' := w4) (a := ⟨B, j, none⟩) hblk).trans (HL.out j hj)
    rcases Nat.eq_zero_or_pos j with h0 | h0
    · subst h0; simpa [Addr.add] using this
    · rw [show (⟨B, 0, none⟩ : Addr).add j = ⟨B, j, none⟩ by simp [Addr.add]; omega]; exact this)
  rw [HLen.out] at hcv2
  have hls : Hid ((⟨l.toArray⟩ : ByteArray).size ≤ maxLen) := by
    show l.length ≤ maxLen
    rw [HLen.out]; exact hs'.out
  have HT : Hid (more 0 (⟨l.toArray⟩ : ByteArray).data.toList = more 0 l) := rfl
  generalize (⟨l.toArray⟩ : ByteArray) = T at *
  clear hblk R4 hcv
  go_wp2_with fail
  refine (sum_in w [t] t (by simp) T hls.out _ S4).mono ?_
  rintro e w5 ⟨rfl, S5, -⟩
  rw [HT.out]
  go_wp2_with fail
  refine (sum_in w [t] t (by simp) s hs'.out _ S5).mono ?_
  rintro e w6 ⟨rfl, S6, -⟩
  have hne : ((more 0 l : Int) != (more 0 s.data.toList : Int)) = true := by
    have := HN.out
    rw [bne_iff_ne]; omega
  go_wp2_with fail
  go_ret
  exact ⟨rfl, S6.1⟩
end Go.Proofs.Ythgjfnejcoadoaa
