/- The law that a frame in which one bit is turned is refused, walked: it answers true and turns nothing that was there. Texts have at most as many bytes as a text may have. -/
import Derived.Test.YtffobfjknbgglaaBack
namespace Go.Proofs.Ytffobfjknbgglaa
open Go.ChangeShapes Go.WideShapes Go.ChangeAt Go.RowKit
set_option linter.unusedVariables false
set_option linter.unusedSimpArgs false

/- The bytes of a text, laid as a row: what is kept, what the cells hold. -/
theorem bytes_in (W : World) (cs : List (Nat × Nat)) (w : World) (s : ByteArray) (cap : Nat) (h : St W cs w) (o : Nat × Nat) (ho : s.size ≤ o.1) :
    St W cs (w.drew.alloc (.cells (bytesRow s cap) 5 o)) ∧ Bx w (w.drew.alloc (.cells (bytesRow s cap) 5 o)) ∧ (w.drew.alloc (.cells (bytesRow s cap) 5 o)).heap.size = w.heap.size + 1 ∧
      (∀ j (hj : j < s.size), (w.drew.alloc (.cells (bytesRow s cap) 5 o)).cell? ⟨w.heap.size, j, none⟩ = some (.int .u8 (s[j].toNat : Int))) ∧
      ∀ j, j < s.size → (w.drew.alloc (.cells (bytesRow s cap) 5 o)).frozen? ⟨w.heap.size, j, none⟩ = false := by
  have hb : (w.drew.alloc (.cells (bytesRow s cap) 5 o)).heap[w.heap.size]? = some (.cells (bytesRow s cap) 5 o) := by
    show (w.heap.push _)[w.heap.size]? = _
    simp
  have hk : Kept w (w.drew.alloc (.cells (bytesRow s cap) 5 o)) := by
    refine kept_of rfl rfl ?_ (fun i hi => Below.heap_alloc w.drew _ i hi)
    show _ ≤ (w.heap.push _).size
    simp
  refine ⟨st_kept h hk, bx_kept hk, ?_, fun j hj => ?_, fun j hj => ?_⟩
  · show (w.heap.push _).size = _; simp
  · have e : (bytesRow s cap)[j]? = some (.int .u8 (s[j].toNat : Int)) := by
      unfold bytesRow
      have hj' : j < s.data.size := hj
      rw [Array.getElem?_append_left (by simpa using hj'), Array.getElem?_map, Array.getElem?_eq_getElem hj']
      rfl
    unfold World.cell?
    rw [hb]
    exact e
  · unfold World.frozen?
    rw [hb]
    show (decide (o.1 ≤ j) && decide (j < o.2)) = false
    rw [decide_eq_false (by omega)]
    rfl
/- A store into a row of the law's own, whose block holds no table, no codec and no frame. -/
theorem st_own {W : World} {cs : List (Nat × Nat)} {u w : World} {B : Nat} (h : St W cs w) (hu : St W cs u) (hB : u.heap.size ≤ B) (hW : W.heap.size ≤ u.heap.size) (o : Nat) (v : Value) : St W cs (w.setCell ⟨B, o, none⟩ v) := by
  have hz : (w.setCell ⟨B, o, none⟩ v).heap.size = w.heap.size := by simp [World.setCell]
  refine ⟨kept_of (show w.os = W.os from kept_os h.1) (show w.output = W.output from kept_output h.1) (by rw [hz]; exact h.1.2) (fun i hi => (Below.heap_setCell _ _ _ _ (by show i ≠ B; omega)).trans (kept_block h.1 hi)), fun c b hm => ?_⟩
  obtain ⟨k1, k2⟩ := h.2 c b hm
  obtain ⟨j1, j2⟩ := hu.2 c b hm
  have n1 : c ≠ B := by have := j2.1; omega
  have n2 : b ≠ B := by have := j2.2.1; omega
  exact ⟨k1, by rw [hz]; exact k2.1, by rw [hz]; exact k2.2.1, (World.cell?_of_block (w := w) (Below.heap_setCell _ _ _ _ n1)).trans k2.2.2.1, tab_block k2.2.2.2 (Below.heap_setCell _ _ _ _ n2)⟩
theorem box_own {X B : Nat} {k f t : Int} {s : ByteArray} {w : World} (h : Box X k f t s w) (hn : X ≠ B) (o : Nat) (v : Value) : Box X k f t s (w.setCell ⟨B, o, none⟩ v) :=
  box_block h (by simp [World.setCell]) (Below.heap_setCell _ _ _ _ hn)
theorem flip (a : UInt8) (q : Nat) (hq : q < 8) : ∃ c : UInt8, c ≠ a ∧ bits .xor .u8 (a.toNat : Int) ((2 : Int) ^ q % 256) = (c.toNat : Int) := by
  have h2 : 2 ^ q < 256 := Nat.pow_lt_pow_right (a := 2) (n := 8) (by omega) hq
  have h0 : 0 < 2 ^ q := Nat.pow_pos (by omega)
  have e : ((2 : Int) ^ q % 256) = ((2 ^ q : Nat) : Int) := by
    rw [Int.natCast_pow]
    have : (((2 ^ q : Nat) : Nat) : Int) = (2 : Int) ^ q := by rw [Int.natCast_pow]; rfl
    omega
  have hx : a.toNat ^^^ 2 ^ q < 256 := Nat.xor_lt_two_pow (n := 8) (u8_lt a) h2
  refine ⟨UInt8.ofNat (a.toNat ^^^ 2 ^ q), fun hc => ?_, ?_⟩
  · have := congrArg UInt8.toNat hc
    rw [UInt8.toNat_ofNat', Nat.mod_eq_of_lt hx] at this
    have h3 : a.toNat ^^^ (a.toNat ^^^ 2 ^ q) = 0 := by rw [this, Nat.xor_self]
    rw [← Nat.xor_assoc, Nat.xor_self, Nat.zero_xor] at h3
    omega
  · rw [e, u8_xor_nat _ _ (u8_lt a) h2, UInt8.toNat_ofNat', Nat.mod_eq_of_lt hx]
theorem enc_bad (k f t : UInt8) (s : ByteArray) (h : (encS k f t s).2 ≠ 0) : (encS k f t s).1 = ⟨#[]⟩ := by
  unfold encS at h ⊢
  split
  · rfl
  split
  · rename_i h1 h2
    rw [if_neg h1, if_pos h2] at h
    exact absurd rfl h
  · rfl
/- One byte turned: refused. -/
theorem turned (k f t : UInt8) (s : ByteArray) (h : (encS k f t s).2 = 0) (p : Nat) (hp : p < (encS k f t s).1.size) (c : UInt8) (hc : c ≠ (encS k f t s).1[p]) : why ((encS k f t s).1.data.toList.set p c) ≠ 0 := by
  obtain ⟨h1, h2, h3⟩ := enc_ok k f t s h
  have hl : (encS k f t s).1.data.toList = lay k f t s.data.toList := by rw [h3]
  have hp' : p < (lay k f t s.data.toList).length := by rw [← hl, toList_size]; exact hp
  rw [hl]
  refine why_set k f t s.data.toList p hp' c ?_
  intro e
  apply hc
  rw [e]
  have : (encS k f t s).1[p] = (encS k f t s).1.data.toList[p]'(by rw [toList_size]; exact hp) := rfl
  rw [this]
  simp only [hl]
theorem enc_pos (k f t : UInt8) (s : ByteArray) (h : (encS k f t s).2 = 0) : 12 ≤ (encS k f t s).1.size ∧ (encS k f t s).1.size = 12 + s.size := by
  obtain ⟨h1, h2, h3⟩ := enc_ok k f t s h
  have : (encS k f t s).1.size = 12 + s.size := by
    rw [← toList_size, h3]
    show (lay k f t s.data.toList).length = _
    rw [lay_length, toList_size]
  omega
theorem encode_nil_in (W : World) (cs : List (Nat × Nat)) (k f t : UInt8) (s : ByteArray) (w : World) (h : St W cs w) :
    Calls Try.prog 10 #[.pointer none, .agg #[.int .u8 (k.toNat : Int), .int .u8 (f.toNat : Int), .int .u8 (t.toNat : Int), .string s]] w fun e w' => e = .returned (.tuple #[.string ⟨#[]⟩, .int .i64 1]) ∧ St W cs w' ∧ Bx w w' :=
  (encode_nil k f t s w).mono fun _ _ ⟨he, hK⟩ => ⟨he, st_kept h hK, bx_kept hK⟩
theorem decode_nil_in (W : World) (cs : List (Nat × Nat)) (s : ByteArray) (w : World) (h : St W cs w) :
    Calls Try.prog 12 #[.pointer none, .string s] w fun e w' => e = .returned (.tuple #[.agg #[.int .u8 0, .int .u8 0, .int .u8 0, .string ⟨#[]⟩], .int .i64 1]) ∧ St W cs w' ∧ Bx w w' :=
  (decode_nil s w).mono fun _ _ ⟨he, hK⟩ => ⟨he, st_kept h hK, bx_kept hK⟩
theorem dec_bad (s : ByteArray) (h : why s.data.toList ≠ 0) : dec s = (0, 0, 0, ⟨#[]⟩) := by unfold dec; rw [if_neg h]
set_option maxHeartbeats 3200000 in
set_option maxRecDepth 100000 in
theorem bit_walk (k f t : UInt8) (a : ByteArray) (at0 bit : Int) (ha0 : a.size ≤ maxLen) (hat : (Lit.int .u16 at0).wf = true) (hbit : (Lit.int .u8 bit).wf = true) (w : World) :
    Calls Try.prog 6 #[frameV k f t a, .int .u16 at0, .int .u8 bit] w fun e w' => e = .returned (.bool true) ∧ Kept w w' := by
  unfold frameV
  have ha := bounds_u16 hat
  have hb := bounds_u8 hbit
  clear ha0 hat hbit
  have hz := zero23
  have bx0 := box_new w (k.toNat : Int) (f.toNat : Int) (t.toNat : Int) a (0, 0)
  have S0 : St w [] (w.alloc (.cells #[.int .u8 (k.toNat : Int), .int .u8 (f.toNat : Int), .int .u8 (t.toNat : Int), .string a] 23)) := st_alloc (St.start w)
  by_cases h1 : (5000 : Int) < (a.size : Int)
  · clear ha hb bx0
    go_enter Try.func6, Try.ntmps6
    go_wp2_with fail
    refine (fixed_in w [] _ S0).mono ?_
    rintro e w1 ⟨rfl, S1, -⟩
    go_wp2_with fail
    go_ret
    exact ⟨rfl, S1.1⟩
  have HTU := turned k f t a
  have HEP := enc_pos k f t a
  have HEB := enc_bad k f t a
  go_enter Try.func6, Try.ntmps6
  go_wp2_with fail
  generalize w.alloc (.cells #[.int .u8 (k.toNat : Int), .int .u8 (f.toNat : Int), .int .u8 (t.toNat : Int), .string a] 23) = w0 at *
  generalize hX : w.heap.size = X at *
  refine (new_in w [] _ S0).mono ?_
  rintro e w1 ⟨c, cb, rfl, S1, B1⟩
  have bx1 := B1 _ _ _ _ _ bx0
  obtain ⟨-, x0, x1, x2, x3⟩ := id bx1
  clear S0 B1 bx0
  go_wp2_with fail
  refine (encode_in w [(c, cb)] c cb (by simp) k f t a _ S1).mono ?_
  rintro e w2 ⟨rfl, S2, B2⟩
  have bx2 := B2 _ _ _ _ _ bx1
  clear S1 B2 bx1 x0 x1 x2 x3
  generalize encS k f t a = E at *
  obtain ⟨s, E⟩ := E
  simp only at HTU HEP HEB
  by_cases hE : E = 0
  · subst hE
    obtain ⟨h12, hsz⟩ := HEP rfl
    have h2' : ¬ (s.size : Int) = 0 := by omega
    obtain ⟨p, hp, hpl⟩ : ∃ p : Nat, at0 % (s.size : Int) = (p : Int) ∧ p < s.size :=
      ⟨(at0 % (s.size : Int)).toNat, by have := Int.emod_nonneg at0 h2'; omega, by have := Int.emod_nonneg at0 h2'; have := Int.emod_lt_of_pos at0 (show (0 : Int) < s.size by omega); omega⟩
    obtain ⟨q, hq, hql⟩ : ∃ q : Nat, bit % 8 = (q : Int) ∧ q < 8 := ⟨(bit % 8).toNat, by omega, by omega⟩
    have hs5 : s.size ≤ 6000 := by omega
    have HTU := HTU rfl p hpl
    clear HEP HEB hsz h12
    have hcv := run_bytes_of_string (P := Try.prog) w2 9 40 5 s Try.underlying9 Try.underlying40 Try.underlying5
    generalize grownCap w2 s.size 0 5 = cap at *
    obtain ⟨S3, B3, hz3, hc3, hf3⟩ := bytes_in w [(c, cb)] w2 s cap S2 ((bytesRow s cap).size, (bytesRow s cap).size + 1) (by simp [bytesRow])
    generalize w2.drew.alloc (.cells (bytesRow s cap) 5 ((bytesRow s cap).size, (bytesRow s cap).size + 1)) = w3 at *
    have bx3 := B3 _ _ _ _ _ bx2
    have hcp := hc3 p hpl
    have hfp := hf3 p hpl
    have HC : Hid (∀ j (hj : j < s.size), w3.cell? ⟨w2.heap.size, j, none⟩ = some (.int .u8 (s[j].toNat : Int))) := hc3
    clear hc3 hf3 B3
    obtain ⟨v, hvne, hx⟩ := flip s[p] q hql
    have HTU := HTU v hvne
    have hXn : X ≠ w2.heap.size := by have := bx2.1; omega
    obtain ⟨B, hB⟩ : ∃ B, B = w2.heap.size := ⟨_, rfl⟩
    have S4 := st_own S3 S2 (Nat.le_of_eq hB.symm) S2.1.2 p (.int .u8 (v.toNat : Int))
    rw [← hB] at hcv hcp hfp HC hz3 hXn
    have bx4 := box_own (B := B) bx3 hXn p (.int .u8 (v.toNat : Int))
    have HL : Hid (∀ j (hj : j < (s.data.toList.set p v).length), (w3.setCell ⟨B, p, none⟩ (.int .u8 (v.toNat : Int))).cell? ⟨B, j, none⟩ = some (.int .u8 ((s.data.toList.set p v)[j].toNat : Int))) := by
      intro j hj
      have hj' : j < s.size := by simpa using hj
      by_cases e : p = j
      · subst e
        rw [List.getElem_set_self]
        exact World.cell?_setCell_same _ _ _ hcp
      · rw [List.getElem_set_ne e, World.cell?_setCell_other _ ⟨B, p, none⟩ ⟨B, j, none⟩ _ (by simp <;> omega)]
        exact HC.out j hj'
    have HLen : Hid ((s.data.toList.set p v).length = s.size) := by show _ = _; simp
    have hcv2 := row_text (w := w3.setCell ⟨B, p, none⟩ (.int .u8 (v.toNat : Int))) (B := B) HL.out HLen.out cap
    have hWY : why (⟨(s.data.toList.set p v).toArray⟩ : ByteArray).data.toList ≠ 0 := HTU
    have hYs : (⟨(s.data.toList.set p v).toArray⟩ : ByteArray).size ≤ 140737488355328 := by
      show (s.data.toList.set p v).toArray.size ≤ _
      rw [List.size_toArray, HLen.out]; omega
    have hWD := dec_bad _ hWY
    generalize (⟨(s.data.toList.set p v).toArray⟩ : ByteArray) = T at *
    clear HL HLen HC HTU S3 S2 bx2 bx3 hB hX
    go_wp2_with fail
    clear hcv hcv2 hp hq hx hcp hfp
    generalize w3.setCell ⟨B, p, none⟩ (.int .u8 (v.toNat : Int)) = w4 at *
    refine (decode_in w [(c, cb)] c cb (by simp) T hYs _ S4).mono ?_
    rintro e w5 ⟨rfl, S5, B5⟩
    have bx5 := B5 _ _ _ _ _ bx4
    rw [hWD]
    simp only
    generalize why T.data.toList = R at *
    have hRi : ((R : Int) != 0) = true := by rw [bne_iff_ne]; omega
    have S6 : St w [(c, cb)] (w5.alloc (.cells #[.int .u8 0, .int .u8 0, .int .u8 0, .string ⟨#[]⟩] 23)) := st_alloc S5
    have bx6 := bx_alloc (o := .cells #[.int .u8 0, .int .u8 0, .int .u8 0, .string ⟨#[]⟩] 23) _ _ _ _ _ bx5
    have bz6 := box_new w5 0 0 0 ⟨#[]⟩ (0, 0)
    obtain ⟨-, x0, x1, x2, x3⟩ := id bx6
    clear S5 B5 bx5 S4 bx4 hWD hWY hYs
    go_wp2_with fail
    generalize w5.alloc (.cells #[.int .u8 0, .int .u8 0, .int .u8 0, .string ⟨#[]⟩] 23) = w6 at *
    generalize w5.heap.size = Y at *
    refine (encode_nil_in w [(c, cb)] k f t a _ S6).mono ?_
    rintro e w7 ⟨rfl, S7, B7⟩
    have bz7 := B7 _ _ _ _ _ bz6
    clear S6 B7 bx6 bz6 x0 x1 x2 x3
    go_wp2_with fail
    refine (decode_nil_in w [(c, cb)] s _ S7).mono ?_
    rintro e w8 ⟨rfl, S8, B8⟩
    have bz8 := B8 _ _ _ _ _ bz7
    have S9 : St w [(c, cb)] (w8.alloc (.cells #[.int .u8 0, .int .u8 0, .int .u8 0, .string ⟨#[]⟩] 23)) := st_alloc S8
    have bz9 := bx_alloc (o := .cells #[.int .u8 0, .int .u8 0, .int .u8 0, .string ⟨#[]⟩] 23) _ _ _ _ _ bz8
    clear S7 B8 bz7 S8 bz8
    go_wp2_with fail
    generalize w8.alloc (.cells #[.int .u8 0, .int .u8 0, .int .u8 0, .string ⟨#[]⟩] 23) = w9 at *
    refine (fixed_in w [(c, cb)] _ S9).mono ?_
    rintro e w10 ⟨rfl, S10, B10⟩
    obtain ⟨-, y0, y1, y2, y3⟩ := B10 _ _ _ _ _ bz9
    clear S9 B10 bz9
    go_wp2_with fail
    go_ret
    exact ⟨rfl, S10.1⟩
  · have hEi : ((E : Int) != 0) = true := by rw [bne_iff_ne]; omega
    have hsE : s = ⟨#[]⟩ := HEB hE
    subst hsE
    clear HTU HEP HEB
    go_wp2_with fail
    refine (fixed_in w [(c, cb)] _ S2).mono ?_
    rintro e w10 ⟨rfl, S10, -⟩
    go_wp2_with fail
    go_ret
    exact ⟨rfl, S10.1⟩
end Go.Proofs.Ytffobfjknbgglaa
