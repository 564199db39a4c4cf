/- The law on lengths and order, walked: a lesser number has no more bytes, and the bytes stand in order as the numbers do; it answers true and turns nothing that was there. -/
import Derived.Test.YtkaplackdcbgiaaMore
import Derived.Laws.Cover1
namespace Go.Proofs.Ytkaplackdcbgiaa
open Go.ChangeShapes Go.WideShapes Go.ChangeAt Go.RowKit
set_option linter.unusedVariables false

theorem less_cons (c d : UInt8) (l m : List UInt8) (h : c.toNat < d.toNat ∨ (c = d ∧ Op.bytesLess l m = true)) : Op.bytesLess (c :: l) (d :: m) = true := by
  unfold Op.bytesLess
  rcases h with h | ⟨rfl, h⟩
  · have : c < d := h
    simp [this]
  · simp [h]
theorem be_less (v : Nat) : ∀ R S, R < 256 ^ v → S < 256 ^ v → R < S → Op.bytesLess (be R v) (be S v) = true := by
  induction v with
  | zero => intro R S h1 h2 h3; simp at h1 h2; omega
  | succ v ih =>
    intro R S h1 h2 h3
    have hp : 0 < 256 ^ v := Nat.pow_pos (by omega)
    rw [Nat.pow_succ] at h1 h2
    have hx : R / 256 ^ v < 256 := (Nat.div_lt_iff_lt_mul hp).2 (by omega)
    have hy : S / 256 ^ v < 256 := (Nat.div_lt_iff_lt_mul hp).2 (by omega)
    have hle : R / 256 ^ v ≤ S / 256 ^ v := Nat.div_le_div_right (by omega)
    rw [be_cons, be_cons]
    apply less_cons
    rw [ofNat_toNat, ofNat_toNat, Nat.mod_eq_of_lt hx, Nat.mod_eq_of_lt hy]
    rcases (show R / 256 ^ v < S / 256 ^ v ∨ R / 256 ^ v = S / 256 ^ v by omega) with h | h
    · exact .inl h
    · refine .inr ⟨by rw [h], ?_⟩
      rw [← be_mod R v, ← be_mod S v]
      apply ih _ _ (Nat.mod_lt _ hp) (Nat.mod_lt _ hp)
      have e1 := Nat.div_add_mod R (256 ^ v)
      have e2 := Nat.div_add_mod S (256 ^ v)
      rw [h] at e1
      omega
theorem enc_head (n : Nat) (h : n < 4611686018427387904) : ∃ c m, enc n = c :: m ∧ c.toNat / 64 = kindOf n := by
  have hw := wide_pos (kindOf n)
  obtain ⟨v, hv⟩ : ∃ v, wide (kindOf n) = v + 1 := ⟨wide (kindOf n) - 1, by omega⟩
  obtain ⟨hc, he⟩ := enc_first n v h hv
  refine ⟨_, _, he, ?_⟩
  have hk := kind_le n
  rw [ofNat_toNat]
  generalize n / 256 ^ v = q at *
  omega
theorem kind_mono (a b : Nat) (h : a ≤ b) : kindOf a ≤ kindOf b := by
  unfold kindOf; repeat' split
  all_goals omega
theorem wide_mono (a b : Nat) (h : a ≤ b) (hb : b ≤ 3) : wide a ≤ wide b := by
  unfold wide; repeat' split
  all_goals omega
theorem enc_less (a b : Nat) (h : a < b) (hb : b < 4611686018427387904) : Op.bytesLess (enc a) (enc b) = true := by
  have hk := kind_mono a b (by omega)
  rcases (show kindOf a < kindOf b ∨ kindOf a = kindOf b by omega) with h1 | h1
  · obtain ⟨c, m, h2, h3⟩ := enc_head a (by omega)
    obtain ⟨d, l, h4, h5⟩ := enc_head b hb
    rw [h2, h4]
    exact less_cons c d m l (.inl (by omega))
  · have ha := mark_lt a (by omega)
    have hb2 := mark_lt b hb
    unfold enc
    rw [h1] at ha ⊢
    apply be_less _ _ _ ha hb2
    unfold mark
    rw [h1]
    omega
theorem enc_inj (a b : Nat) (ha : a < 4611686018427387904) (hb : b < 4611686018427387904) (h : enc a = enc b) : a = b := by
  have e1 := getL_enc a ha []
  have e2 := getL_enc b hb []
  rw [h, e2] at e1
  simp only [Prod.mk.injEq] at e1
  exact e1.1.symm
/- Two unlike numbers in order: what the law asks of their bytes. -/
theorem enc_order (a b : Nat) (h : a < b) (hb : b < 4611686018427387904) (A B : ByteArray) (hA : A = ⟨(enc a).toArray⟩) (hB : B = ⟨(enc b).toArray⟩) :
    A.size ≤ B.size ∧ (Op.bytesLess A.toList B.toList) = true ∧ (A.toList == B.toList) = false := by
  have sA : A.size = wide (kindOf a) := by rw [hA]; exact enc_length a
  have sB : B.size = wide (kindOf b) := by rw [hB]; exact enc_length b
  have lA : A.toList = enc a := by rw [hA, ByteArray.toList_eq]
  have lB : B.toList = enc b := by rw [hB, ByteArray.toList_eq]
  refine ⟨by rw [sA, sB]; exact wide_mono _ _ (kind_mono a b (by omega)) (kind_le b), ?_, ?_⟩
  · rw [lA, lB]
    exact enc_less a b h hb
  · rw [lA, lB]
    have h2 : enc a ≠ enc b := fun e => absurd (enc_inj a b (by omega) hb e) (by omega)
    exact beq_eq_false_iff_ne.2 h2
theorem enc_sizes (b : Nat) (B : ByteArray) (hB : B = ⟨(enc b).toArray⟩) : (B.size : Int) = 1 ∨ (B.size : Int) = 2 ∨ (B.size : Int) = 4 ∨ (B.size : Int) = 8 := by
  have sB : B.size = wide (kindOf b) := by rw [hB]; exact enc_length b
  rw [sB]; unfold wide; repeat' split
  all_goals omega
set_option maxRecDepth 100000 in
set_option maxHeartbeats 1600000 in
theorem lengths_less (n m : Nat) (x y : Nat) (hx : (n : Int) % 4611686018427387904 = (x : Int)) (hy : (m : Int) % 4611686018427387904 = (y : Int)) (hxl : x < 4611686018427387904) (hyl : y < 4611686018427387904) (h : (x : Int) < (y : Int)) (w : World) :
    Calls Try.prog 8 #[.int .u64 (n : Int), .int .u64 (m : Int)] w fun e w' => e = .returned (.bool true) ∧ Kept w w' := by
  have H0 : Below w.heap.size w w := Below.refl _ _
  have hF := fun w1 => fixed_in w w1
  have hP := fun w1 => Put_in x (by omega) w w1
  have hQ := fun w1 => Put_in y (by omega) w w1
  have ex : putE x = (⟨(enc x).toArray⟩, 0) := by unfold putE; rw [if_pos hxl]
  have ey : putE y = (⟨(enc y).toArray⟩, 0) := by unfold putE; rw [if_pos hyl]
  rw [ex] at hP
  rw [ey] at hQ
  obtain ⟨h1, h2, h3⟩ := enc_order x y (by omega) hyl _ _ rfl rfl
  have h4 := enc_sizes y _ rfl
  have hne : ((x : Int) == (y : Int)) = false := beq_eq_false_iff_ne.2 (by omega)
  have hgt : ¬ (y : Int) < (x : Int) := by omega
  clear ex ey hxl hyl
  generalize (⟨(enc x).toArray⟩ : ByteArray) = X at *
  generalize (⟨(enc y).toArray⟩ : ByteArray) = Y at *
  have h1i : (X.size : Int) ≤ (Y.size : Int) := by omega
  rcases h4 with h5 | h5 | h5 | h5
  all_goals
    rw [h5] at h1i
    clear h h1
    go_enter Try.func8, Try.ntmps8
    go_wp2_with fail
    refine (hP _ H0).mono ?_
    rintro e w1 ⟨rfl, H1⟩
    go_wp2_with fail
    refine (hQ _ H1).mono ?_
    rintro e w2 ⟨rfl, H2⟩
    go_wp2_with fail
    refine (hF _ H2).mono ?_
    rintro e w3 ⟨rfl, H3⟩
    clear hF hP hQ hx hy H0 H1 H2 hgt
    go_wp2
    go_ret
    exact ⟨by simp, kept_below H3⟩
set_option maxRecDepth 100000 in
set_option maxHeartbeats 1600000 in
theorem lengths_more (n m : Nat) (x y : Nat) (hx : (n : Int) % 4611686018427387904 = (x : Int)) (hy : (m : Int) % 4611686018427387904 = (y : Int)) (hxl : x < 4611686018427387904) (hyl : y < 4611686018427387904) (h : (y : Int) < (x : Int)) (w : World) :
    Calls Try.prog 8 #[.int .u64 (n : Int), .int .u64 (m : Int)] w fun e w' => e = .returned (.bool true) ∧ Kept w w' := by
  have H0 : Below w.heap.size w w := Below.refl _ _
  have hF := fun w1 => fixed_in w w1
  have hP := fun w1 => Put_in x (by omega) w w1
  have hQ := fun w1 => Put_in y (by omega) w w1
  have ex : putE x = (⟨(enc x).toArray⟩, 0) := by unfold putE; rw [if_pos hxl]
  have ey : putE y = (⟨(enc y).toArray⟩, 0) := by unfold putE; rw [if_pos hyl]
  rw [ex] at hP
  rw [ey] at hQ
  obtain ⟨h1, h2, h3⟩ := enc_order y x (by omega) hxl _ _ rfl rfl
  have h4 := enc_sizes x _ rfl
  have hne : ((y : Int) == (x : Int)) = false := beq_eq_false_iff_ne.2 (by omega)
  have hgt : (y : Int) < (x : Int) := by omega
  clear ex ey hxl hyl
  generalize (⟨(enc x).toArray⟩ : ByteArray) = X at *
  generalize (⟨(enc y).toArray⟩ : ByteArray) = Y at *
  have h1i : (Y.size : Int) ≤ (X.size : Int) := by omega
  rcases h4 with h5 | h5 | h5 | h5
  all_goals
    rw [h5] at h1i
    clear h h1
    go_enter Try.func8, Try.ntmps8
    go_wp2_with fail
    refine (hQ _ H0).mono ?_
    rintro e w1 ⟨rfl, H1⟩
    go_wp2_with fail
    refine (hP _ H1).mono ?_
    rintro e w2 ⟨rfl, H2⟩
    go_wp2_with fail
    refine (hF _ H2).mono ?_
    rintro e w3 ⟨rfl, H3⟩
    clear hF hP hQ hx hy H0 H1 H2 hgt
    go_wp2
    go_ret
    exact ⟨by simp, kept_below H3⟩
set_option maxRecDepth 100000 in
set_option maxHeartbeats 1600000 in
theorem lengths_same (n m : Nat) (x y : Nat) (hx : (n : Int) % 4611686018427387904 = (x : Int)) (hy : (m : Int) % 4611686018427387904 = (y : Int)) (hxl : x < 4611686018427387904) (hyl : y < 4611686018427387904) (h : x = y) (w : World) :
    Calls Try.prog 8 #[.int .u64 (n : Int), .int .u64 (m : Int)] w fun e w' => e = .returned (.bool true) ∧ Kept w w' := by
  subst h
  have H0 : Below w.heap.size w w := Below.refl _ _
  have hF := fun w1 => fixed_in w w1
  have hP := fun w1 => Put_in x (by omega) w w1
  have hQ := fun w1 => Put_in x (by omega) w w1
  have ex : putE x = (⟨(enc x).toArray⟩, 0) := by unfold putE; rw [if_pos hxl]
  have ey : putE x = (⟨(enc x).toArray⟩, 0) := by unfold putE; rw [if_pos hyl]
  rw [ex] at hP
  rw [ey] at hQ
  have h4 := enc_sizes x _ rfl
  have hgt : ¬ (x : Int) < (x : Int) := by omega
  clear ex ey hxl hyl
  generalize (⟨(enc x).toArray⟩ : ByteArray) = X at *
  have h1i : (X.size : Int) ≤ (X.size : Int) := by omega
  rcases h4 with h5 | h5 | h5 | h5
  all_goals
    rw [h5] at h1i
    go_enter Try.func8, Try.ntmps8
    go_wp2_with fail
    refine (hP _ H0).mono ?_
    rintro e w1 ⟨rfl, H1⟩
    go_wp2_with fail
    refine (hQ _ H1).mono ?_
    rintro e w2 ⟨rfl, H2⟩
    go_wp2_with fail
    refine (hF _ H2).mono ?_
    rintro e w3 ⟨rfl, H3⟩
    clear hF hP hQ hx hy H0 H1 H2 hgt
    go_wp2
    go_ret
    exact ⟨by simp, kept_below H3⟩
theorem lengths_walk (n m : Int) (hnw : (Lit.int .u64 n).wf = true) (hmw : (Lit.int .u64 m).wf = true) (w : World) :
    Calls Try.prog 8 #[.int .u64 n, .int .u64 m] w fun e w' => e = .returned (.bool true) ∧ Kept w w' := by
  obtain ⟨n, rfl, hn⟩ := wf_u64 hnw
  obtain ⟨m, rfl, hm⟩ := wf_u64 hmw
  have hx : (n : Int) % 4611686018427387904 = ((n % 4611686018427387904 : Nat) : Int) := by omega
  have hy : (m : Int) % 4611686018427387904 = ((m % 4611686018427387904 : Nat) : Int) := by omega
  have hxl : n % 4611686018427387904 < 4611686018427387904 := Nat.mod_lt _ (by omega)
  have hyl : m % 4611686018427387904 < 4611686018427387904 := Nat.mod_lt _ (by omega)
  generalize n % 4611686018427387904 = x at *
  generalize m % 4611686018427387904 = y at *
  rcases (show x < y ∨ y < x ∨ x = y by omega) with h | h | h
  · exact lengths_less n m x y hx hy hxl hyl (by omega) w
  · exact lengths_more n m x y hx hy hxl hyl (by omega) w
  · exact lengths_same n m x y hx hy hxl hyl h w
end Go.Proofs.Ytkaplackdcbgiaa
