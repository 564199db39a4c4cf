/- Contracts of the reference's Put and Text: the same bytes. They turn nothing that was there. -/
import Derived.Test.YtioeidhblbfgmaaGreatY2

namespace Go.Proofs.YtioeidhblbfgmaaGreat
open Go.ChangeShapes Go.WideShapes Go.ChangeAt Go.RowKit
set_option linter.unusedVariables false
set_option maxRecDepth 100000

set_option maxRecDepth 100000 in
set_option maxHeartbeats 3200000 in
theorem refPut_big (n : Nat) (hn : n < 18446744073709551616) (h : ¬ n < 4611686018427387904) (w : World) : Calls Tryz.prog 94 #[.int .u64 (n : Int)] w fun e w' => e = .returned (.tuple #[.string (putE n).1, .int .i64 ((putE n).2 : Int)]) ∧ Below w.heap.size w w' := by
  have e : putE n = (⟨#[]⟩, 4) := by unfold putE; rw [if_neg h]
  rw [e]
  have hi : (4611686018427387904 : Int) ≤ (n : Int) := by omega
  go_enter Tryz.func94, Tryz.ntmps94
  go_wp2
  go_ret2
  exact ⟨rfl, Below.refl _ _⟩
def bc (l : List UInt8) : List Value := l.map (fun c => Value.int .u8 (c.toNat : Int))
theorem bc_length (l : List UInt8) : (bc l).length = l.length := by simp [bc]
theorem bc_get (l : List UInt8) (j : Nat) (h : j < l.length) : (bc l)[j]? = some (.int .u8 (l[j].toNat : Int)) := by
  simp [bc, List.getElem?_eq_getElem h]
theorem bc_snoc (l : List UInt8) (c : UInt8) : bc (l ++ [c]) = bc l ++ [.int .u8 (c.toNat : Int)] := by simp [bc]
theorem be_take (n W q : Nat) (h : q < W) : (be n W).take (W - q) = (be n W).take (W - (q + 1)) ++ [UInt8.ofNat (n / 256 ^ q)] := by
  have hl : W - (q + 1) < (be n W).length := by rw [be_length]; omega
  have hg := be_get W n (W - (q + 1)) (by omega)
  rw [List.getElem?_eq_getElem hl] at hg
  rw [show W - q = W - (q + 1) + 1 by omega, List.take_succ_eq_append_getElem hl, Option.some.inj hg, show W - 1 - (W - (q + 1)) = q by omega]
theorem one_new (w : World) (v : Value) (e : TypeId) : ∀ j u, [v][j]? = some u → (w.alloc (.cells #[v] e)).cell? ((⟨w.heap.size, 0, none⟩ : Addr).add j) = some u := by
  intro j u hj
  match j, hj with
  | 0, hj => simp at hj; subst hj; simp [Addr.add]
theorem one_byte (x : Int) : ∀ u ∈ [Value.int .u8 x], u.oneCell' = true := by intro u hu; simp at hu; subst hu; rfl
theorem small_len {W m : Nat} (h : W ≤ 8) : W - m + 1 ≤ maxLen := by unfold maxLen; omega
theorem small_bytes {W m : Nat} (h : W ≤ 8) : (W - m + 1) * 1 ≤ 140737488355328 := by omega
theorem size_new {B : Nat} {w : World} (h : B ≤ w.heap.size) (o : Obj) : B ≤ (w.alloc o).heap.size := by simp; omega
theorem own_form {w : World} {B W : Nat} {v : Value} {xs : List Value} (h : w.ownsRow B 5 1 v W xs) (hW : 0 < W) : ∃ g cap, v = .slice (some ⟨g, 0, none⟩) W cap := by
  rcases h.2 with ⟨_, h0⟩ | ⟨g, cap, cur, h1, _⟩
  · omega
  · exact ⟨g, cap, h1⟩
/- A row that holds a number's bytes without the kind: the first cell is there, may be written, and behind the store the row reads with the kind. -/
theorem own_first {w : World} {B : Nat} (c k : Nat) (T : List UInt8) (v W cap g : Nat) (u : Value) (hv : v + 1 = W) (hu : u = .slice (some ⟨g, 0, none⟩) W cap) (hc : c < 64) (h8 : (UInt8.ofNat c).toNat = c) (hk : k ≤ 3) (h : w.ownsRow B 5 1 u W (bc (UInt8.ofNat c :: T))) :
    B ≤ g ∧ w.cell? ⟨g, 0, none⟩ = some (.int .u8 (c : Int)) ∧ w.frozen? ⟨g, 0, none⟩ = false ∧
    (convert 51 9 (.slice (some ⟨g, 0, none⟩) W cap)).run Tryz.prog (w.setCell ⟨g, 0, none⟩ (.int .u8 ((c : Int) + (k : Int) * 64))) = .ok (.string ⟨(UInt8.ofNat (c + k * 64) :: T).toArray⟩) (w.setCell ⟨g, 0, none⟩ (.int .u8 ((c : Int) + (k : Int) * 64))) := by
  subst hu
  have hl : T.length = v := by have := h.1; rw [bc_length, List.length_cons] at this; omega
  have hcell : w.cell? ⟨g, 0, none⟩ = some (.int .u8 (c : Int)) := by
    rw [h.cellAt 0 (by omega), bc_get _ 0 (by simp)]
    simp only [List.getElem_cons_zero, h8]
  refine ⟨(h.lt g rfl).1, hcell, h.frozenAt 0, ?_⟩
  apply row_text _ (by rw [List.length_cons, hl, hv])
  intro j hj
  rcases j with _ | j
  · rw [World.cell?_setCell_same _ _ _ hcell]
    simp only [List.getElem_cons_zero, ofNat_toNat]
    rw [show ((c + k * 64) % 256 : Nat) = c + k * 64 by omega]
    congr
  · rw [World.cell?_setCell_other _ _ _ _ (by simp)]
    rw [h.cellAt (j + 1) (by rw [List.length_cons] at hj; omega), bc_get _ (j + 1) (by rw [List.length_cons] at hj ⊢; omega)]
    simp
set_option maxRecDepth 100000 in
set_option maxHeartbeats 3200000 in
theorem refPut_small (n : Nat) (h : n < 4611686018427387904) (w : World) : Calls Tryz.prog 94 #[.int .u64 (n : Int)] w fun e w' => e = .returned (.tuple #[.string ⟨(enc n).toArray⟩, .int .i64 0]) ∧ Below w.heap.size w w' := by
  obtain ⟨i0, hi, hz0, hz1, hz2⟩ := info_parts info5
  have hi0 : ¬ (4611686018427387904 : Int) ≤ (n : Int) := by omega
  have HL : Hid (∀ v, wide (kindOf n) = v + 1 → n / 256 ^ v < 64 ∧ enc n = UInt8.ofNat (n / 256 ^ v + kindOf n * 64) :: be n v) := fun v hv => enc_first n v h hv
  generalize enc n = L at *
  obtain ⟨B, hB⟩ : ∃ B, B = w.heap.size := ⟨_, rfl⟩
  have HB : Hid (B = w.heap.size) := hB
  have S0 : Hid (Below B w (w.alloc (.cells #[] 5))) := by rw [hB]; exact (Below.refl _ w).alloc (Nat.le_refl _) _
  have O0 : Hid ((w.alloc (.cells #[] 5)).ownsRow B 5 1 (.slice (some ⟨w.heap.size, 0, none⟩) 0 0) 0 []) := World.ownsRow_made w #[] 0 (by rw [hB]; exact Nat.le_refl _) (by unfold maxLen; omega) rfl
  have hZ : Hid (B ≤ (w.alloc (.cells #[] 5)).heap.size) := by rw [hB]; show w.heap.size ≤ _; simp
  clear hB
  rcases (show (n < 64 ∧ kindOf n = 0) ∨ (64 ≤ n ∧ n < 16384 ∧ kindOf n = 1) ∨ (16384 ≤ n ∧ n < 1073741824 ∧ kindOf n = 2) ∨ (1073741824 ≤ n ∧ kindOf n = 3) by
    unfold kindOf; repeat' split
    all_goals omega) with ⟨h1, hk⟩ | ⟨h1, h2, hk⟩ | ⟨h1, h2, hk⟩ | ⟨h1, hk⟩
  · obtain ⟨W, hW⟩ : ∃ W, W = 1 := ⟨_, rfl⟩
    have HW : Hid (W = 1) := hW
    clear hW
    have hi1 : ¬ (64 : Int) ≤ (n : Int) := by omega
    have hi2 : ¬ (16384 : Int) ≤ (n : Int) := by omega
    have hi3 : ¬ (1073741824 : Int) ≤ (n : Int) := by omega
    have HK : Hid (kindOf n = 0) := hk
    clear hk h1 h
    go_enter Tryz.func94, Tryz.ntmps94
    go_wp2
    have hn63 : (n : Int) ≤ 9223372036854775807 := by omega
    clear hi0 hi1 hi2 hi3
    go_loopw [6, 7, 8, 9] (fun v i b j wr => ∃ q : Nat, q ≤ W ∧ i = .int .i64 ((q : Int) - 1) ∧ Hid (Below B w wr) ∧ Hid (B ≤ wr.heap.size) ∧ Hid (wr.ownsRow B 5 1 v (W - q) (bc ((be n W).take (W - q))))) (fun _ i _ _ _ => (intOf i + 1).toNat)
    case atStart =>
      have e := HW.out
      subst e
      exact ⟨1, Nat.le_refl _, rfl, S0, hZ, O0⟩
    case round =>
      obtain ⟨q, hq, rfl, HS, HZ, HO⟩ := hrel
      rcases q with _ | m
      · have hW1 : 0 < W := by have := HW.out; omega
        obtain ⟨v, hv⟩ : ∃ v, v + 1 = W := ⟨W - 1, by omega⟩
        obtain ⟨hc0, HLe⟩ := HL.out v (by rw [HK.out, hv, HW.out]; rfl)
        have hbe := be_cons n v
        rw [hv] at hbe
        have HO2 := HO.out
        rw [Nat.sub_zero, List.take_of_length_le (by rw [be_length]; exact Nat.le_refl _), hbe] at HO2
        obtain ⟨g, cap, hu⟩ := own_form HO2 hW1
        rw [HK.out] at HLe
        generalize n / 256 ^ v = c at *
        have hc0i : (c : Int) < 64 := by omega
        have hu8 : (UInt8.ofNat c).toNat = c := by rw [ofNat_toNat]; omega
        obtain ⟨hg, h0, hf, ht⟩ := own_first c 0 (be n v) v W cap g u6 hv hu hc0 hu8 (by omega) HO2
        rw [← HLe] at ht
        have hcv : (convert 51 9 (.slice (some ⟨g, 0, none⟩) W cap)).run Tryz.prog (wr.setCell ⟨g, 0, none⟩ (.int .u8 (c : Int))) = .ok (.string ⟨L.toArray⟩) (wr.setCell ⟨g, 0, none⟩ (.int .u8 (c : Int))) := by
          have := ht
          simpa using this
        have HE : Hid (Below B w (wr.setCell ⟨g, 0, none⟩ (.int .u8 (c : Int)))) := HS.out.setCell hg _
        subst hu
        clear ht HLe HO HO2 hbe hv hn63 hu8
        go_wp2
        go_ret2
        exact ⟨rfl, HB.out ▸ HE.out⟩
      · rw [show ((m + 1 : Nat) : Int) - 1 = (m : Int) by omega]
        have hm : (m : Int) ≤ 8 := by have := HW.out; omega
        go_wp2
        go_loop [8, 9] (fun b j => ∃ p : Nat, p ≤ m ∧ j = .int .i64 p ∧ b = .int .u64 ((n / 256 ^ p : Nat) : Int)) (fun _ j => m - (intOf j).toNat)
        case atStart => exact ⟨0, Nat.zero_le _, rfl, by simp⟩
        case round =>
          obtain ⟨p, hp, rfl, rfl⟩ := hrel
          by_cases hlt : p < m
          · have HD : Hid (n / 256 ^ p / 256 = n / 256 ^ (p + 1)) := by show _ = _; rw [Nat.div_div_eq_div_mul, ← Nat.pow_succ]
            have hx : n / 256 ^ p ≤ n := Nat.div_le_self _ _
            generalize n / 256 ^ p = x at *
            have hxw : IntKind.u64.wrap ((x : Int) / 256) = ((x / 256 : Nat) : Int) := by rw [IntKind.wrap_u64]; omega
            have HX : Hid (x ≤ n) := hx
            clear hx hn63
            generalize hy : x / 256 = y at *
            clear hy
            go_wp2
            go_round
            case rel => exact ⟨p + 1, by omega, by go_num, by rw [← HD.out]⟩
            case measure => simp [intOf]; omega
          · obtain rfl : p = m := by omega
            have HT : Hid ((be n W).take (W - p) = (be n W).take (W - (p + 1)) ++ [UInt8.ofNat (n / 256 ^ p)]) := be_take n W p (by omega)
            generalize n / 256 ^ p = x at *
            clear hn63
            have hxx : (x : Int) % 256 = ((UInt8.ofNat x).toNat : Int) := by rw [ofNat_toNat]; omega
            have HX : Hid ((x : Int) % 256 = ((UInt8.ofNat x).toNat : Int)) := hxx
            clear hxx
            have hW8 : Hid (W ≤ 8) := by have := HW.out; show W ≤ 8; omega
            go_wp2_with (at_builtin; refine wpList_append_own _ rfl _ _ 51 rfl B 5 i0 (.int .u8 0) 1 1 Tryz.underlying51 hi hz0 hz1 hz2 rfl (by decide) _ _ _ rfl (HO.out.alloc _) ⟨wr.heap.size, 0, none⟩ 1 1 [.int .u8 ((x : Int) % 256)] rfl rfl (one_new _ _ _) (one_byte _) (small_len hW8.out) (small_bytes hW8.out) (size_new HZ.out _) ?_)
            intro v' w1 hown' hgrow _
            have hown2 : Hid (w1.ownsRow B 5 1 v' (W - p) (bc ((be n W).take (W - p)))) := by
              show w1.ownsRow B 5 1 v' (W - p) (bc ((be n W).take (W - p)))
              rw [HT.out, bc_snoc, ← HX.out, show W - p = W - (p + 1) + 1 by omega]
              exact hown'
            have hbel : Hid (Below B w w1) := (HS.out.alloc HZ.out _).grown hgrow (by have := HZ.out; simp; omega) (fun k hk => (HO.out.lt k hk).1)
            have hsz : Hid (B ≤ w1.heap.size) := by have := HZ.out; have := hgrow.size; simp at this; show B ≤ _; omega
            clear hown' hgrow
            go_wp2
            go_roundw
            case rel => exact ⟨p, by omega, rfl, hbel, hsz, hown2⟩
            case measure => simp [intOf]
  · obtain ⟨W, hW⟩ : ∃ W, W = 2 := ⟨_, rfl⟩
    have HW : Hid (W = 2) := hW
    clear hW
    have hi1 : (64 : Int) ≤ (n : Int) := by omega
    have hi2 : ¬ (16384 : Int) ≤ (n : Int) := by omega
    have hi3 : ¬ (1073741824 : Int) ≤ (n : Int) := by omega
    have HK : Hid (kindOf n = 1) := hk
    clear hk h1 h2 h
    go_enter Tryz.func94, Tryz.ntmps94
    go_wp2
    have hn63 : (n : Int) ≤ 9223372036854775807 := by omega
    clear hi0 hi1 hi2 hi3
    go_loopw [6, 7, 8, 9] (fun v i b j wr => ∃ q : Nat, q ≤ W ∧ i = .int .i64 ((q : Int) - 1) ∧ Hid (Below B w wr) ∧ Hid (B ≤ wr.heap.size) ∧ Hid (wr.ownsRow B 5 1 v (W - q) (bc ((be n W).take (W - q))))) (fun _ i _ _ _ => (intOf i + 1).toNat)
    case atStart =>
      have e := HW.out
      subst e
      exact ⟨2, Nat.le_refl _, rfl, S0, hZ, O0⟩
    case round =>
      obtain ⟨q, hq, rfl, HS, HZ, HO⟩ := hrel
      rcases q with _ | m
      · have hW1 : 0 < W := by have := HW.out; omega
        obtain ⟨v, hv⟩ : ∃ v, v + 1 = W := ⟨W - 1, by omega⟩
        obtain ⟨hc0, HLe⟩ := HL.out v (by rw [HK.out, hv, HW.out]; rfl)
        have hbe := be_cons n v
        rw [hv] at hbe
        have HO2 := HO.out
        rw [Nat.sub_zero, List.take_of_length_le (by rw [be_length]; exact Nat.le_refl _), hbe] at HO2
        obtain ⟨g, cap, hu⟩ := own_form HO2 hW1
        rw [HK.out] at HLe
        generalize n / 256 ^ v = c at *
        have hc0i : (c : Int) < 64 := by omega
        have hu8 : (UInt8.ofNat c).toNat = c := by rw [ofNat_toNat]; omega
        obtain ⟨hg, h0, hf, ht⟩ := own_first c 1 (be n v) v W cap g u6 hv hu hc0 hu8 (by omega) HO2
        rw [← HLe] at ht
        have hcv : (convert 51 9 (.slice (some ⟨g, 0, none⟩) W cap)).run Tryz.prog (wr.setCell ⟨g, 0, none⟩ (.int .u8 ((c : Int) + 64))) = .ok (.string ⟨L.toArray⟩) (wr.setCell ⟨g, 0, none⟩ (.int .u8 ((c : Int) + 64))) := by
          have := ht
          simpa using this
        have HE : Hid (Below B w (wr.setCell ⟨g, 0, none⟩ (.int .u8 ((c : Int) + 64)))) := HS.out.setCell hg _
        subst hu
        clear ht HLe HO HO2 hbe hv hn63 hu8
        go_wp2
        go_ret2
        exact ⟨rfl, HB.out ▸ HE.out⟩
      · rw [show ((m + 1 : Nat) : Int) - 1 = (m : Int) by omega]
        have hm : (m : Int) ≤ 8 := by have := HW.out; omega
        go_wp2
        go_loop [8, 9] (fun b j => ∃ p : Nat, p ≤ m ∧ j = .int .i64 p ∧ b = .int .u64 ((n / 256 ^ p : Nat) : Int)) (fun _ j => m - (intOf j).toNat)
        case atStart => exact ⟨0, Nat.zero_le _, rfl, by simp⟩
        case round =>
          obtain ⟨p, hp, rfl, rfl⟩ := hrel
          by_cases hlt : p < m
          · have HD : Hid (n / 256 ^ p / 256 = n / 256 ^ (p + 1)) := by show _ = _; rw [Nat.div_div_eq_div_mul, ← Nat.pow_succ]
            have hx : n / 256 ^ p ≤ n := Nat.div_le_self _ _
            generalize n / 256 ^ p = x at *
            have hxw : IntKind.u64.wrap ((x : Int) / 256) = ((x / 256 : Nat) : Int) := by rw [IntKind.wrap_u64]; omega
            have HX : Hid (x ≤ n) := hx
            clear hx hn63
            generalize hy : x / 256 = y at *
            clear hy
            go_wp2
            go_round
            case rel => exact ⟨p + 1, by omega, by go_num, by rw [← HD.out]⟩
            case measure => simp [intOf]; omega
          · obtain rfl : p = m := by omega
            have HT : Hid ((be n W).take (W - p) = (be n W).take (W - (p + 1)) ++ [UInt8.ofNat (n / 256 ^ p)]) := be_take n W p (by omega)
            generalize n / 256 ^ p = x at *
            clear hn63
            have hxx : (x : Int) % 256 = ((UInt8.ofNat x).toNat : Int) := by rw [ofNat_toNat]; omega
            have HX : Hid ((x : Int) % 256 = ((UInt8.ofNat x).toNat : Int)) := hxx
            clear hxx
            have hW8 : Hid (W ≤ 8) := by have := HW.out; show W ≤ 8; omega
            go_wp2_with (at_builtin; refine wpList_append_own _ rfl _ _ 51 rfl B 5 i0 (.int .u8 0) 1 1 Tryz.underlying51 hi hz0 hz1 hz2 rfl (by decide) _ _ _ rfl (HO.out.alloc _) ⟨wr.heap.size, 0, none⟩ 1 1 [.int .u8 ((x : Int) % 256)] rfl rfl (one_new _ _ _) (one_byte _) (small_len hW8.out) (small_bytes hW8.out) (size_new HZ.out _) ?_)
            intro v' w1 hown' hgrow _
            have hown2 : Hid (w1.ownsRow B 5 1 v' (W - p) (bc ((be n W).take (W - p)))) := by
              show w1.ownsRow B 5 1 v' (W - p) (bc ((be n W).take (W - p)))
              rw [HT.out, bc_snoc, ← HX.out, show W - p = W - (p + 1) + 1 by omega]
              exact hown'
            have hbel : Hid (Below B w w1) := (HS.out.alloc HZ.out _).grown hgrow (by have := HZ.out; simp; omega) (fun k hk => (HO.out.lt k hk).1)
            have hsz : Hid (B ≤ w1.heap.size) := by have := HZ.out; have := hgrow.size; simp at this; show B ≤ _; omega
            clear hown' hgrow
            go_wp2
            go_roundw
            case rel => exact ⟨p, by omega, rfl, hbel, hsz, hown2⟩
            case measure => simp [intOf]
  · obtain ⟨W, hW⟩ : ∃ W, W = 4 := ⟨_, rfl⟩
    have HW : Hid (W = 4) := hW
    clear hW
    have hi1 : (64 : Int) ≤ (n : Int) := by omega
    have hi2 : (16384 : Int) ≤ (n : Int) := by omega
    have hi3 : ¬ (1073741824 : Int) ≤ (n : Int) := by omega
    have HK : Hid (kindOf n = 2) := hk
    clear hk h1 h2 h
    go_enter Tryz.func94, Tryz.ntmps94
    go_wp2
    have hn63 : (n : Int) ≤ 9223372036854775807 := by omega
    clear hi0 hi1 hi2 hi3
    go_loopw [6, 7, 8, 9] (fun v i b j wr => ∃ q : Nat, q ≤ W ∧ i = .int .i64 ((q : Int) - 1) ∧ Hid (Below B w wr) ∧ Hid (B ≤ wr.heap.size) ∧ Hid (wr.ownsRow B 5 1 v (W - q) (bc ((be n W).take (W - q))))) (fun _ i _ _ _ => (intOf i + 1).toNat)
    case atStart =>
      have e := HW.out
      subst e
      exact ⟨4, Nat.le_refl _, rfl, S0, hZ, O0⟩
    case round =>
      obtain ⟨q, hq, rfl, HS, HZ, HO⟩ := hrel
      rcases q with _ | m
      · have hW1 : 0 < W := by have := HW.out; omega
        obtain ⟨v, hv⟩ : ∃ v, v + 1 = W := ⟨W - 1, by omega⟩
        obtain ⟨hc0, HLe⟩ := HL.out v (by rw [HK.out, hv, HW.out]; rfl)
        have hbe := be_cons n v
        rw [hv] at hbe
        have HO2 := HO.out
        rw [Nat.sub_zero, List.take_of_length_le (by rw [be_length]; exact Nat.le_refl _), hbe] at HO2
        obtain ⟨g, cap, hu⟩ := own_form HO2 hW1
        rw [HK.out] at HLe
        generalize n / 256 ^ v = c at *
        have hc0i : (c : Int) < 64 := by omega
        have hu8 : (UInt8.ofNat c).toNat = c := by rw [ofNat_toNat]; omega
        obtain ⟨hg, h0, hf, ht⟩ := own_first c 2 (be n v) v W cap g u6 hv hu hc0 hu8 (by omega) HO2
        rw [← HLe] at ht
        have hcv : (convert 51 9 (.slice (some ⟨g, 0, none⟩) W cap)).run Tryz.prog (wr.setCell ⟨g, 0, none⟩ (.int .u8 ((c : Int) + 128))) = .ok (.string ⟨L.toArray⟩) (wr.setCell ⟨g, 0, none⟩ (.int .u8 ((c : Int) + 128))) := by
          have := ht
          simpa using this
        have HE : Hid (Below B w (wr.setCell ⟨g, 0, none⟩ (.int .u8 ((c : Int) + 128)))) := HS.out.setCell hg _
        subst hu
        clear ht HLe HO HO2 hbe hv hn63 hu8
        go_wp2
        go_ret2
        exact ⟨rfl, HB.out ▸ HE.out⟩
      · rw [show ((m + 1 : Nat) : Int) - 1 = (m : Int) by omega]
        have hm : (m : Int) ≤ 8 := by have := HW.out; omega
        go_wp2
        go_loop [8, 9] (fun b j => ∃ p : Nat, p ≤ m ∧ j = .int .i64 p ∧ b = .int .u64 ((n / 256 ^ p : Nat) : Int)) (fun _ j => m - (intOf j).toNat)
        case atStart => exact ⟨0, Nat.zero_le _, rfl, by simp⟩
        case round =>
          obtain ⟨p, hp, rfl, rfl⟩ := hrel
          by_cases hlt : p < m
          · have HD : Hid (n / 256 ^ p / 256 = n / 256 ^ (p + 1)) := by show _ = _; rw [Nat.div_div_eq_div_mul, ← Nat.pow_succ]
            have hx : n / 256 ^ p ≤ n := Nat.div_le_self _ _
            generalize n / 256 ^ p = x at *
            have hxw : IntKind.u64.wrap ((x : Int) / 256) = ((x / 256 : Nat) : Int) := by rw [IntKind.wrap_u64]; omega
            have HX : Hid (x ≤ n) := hx
            clear hx hn63
            generalize hy : x / 256 = y at *
            clear hy
            go_wp2
            go_round
            case rel => exact ⟨p + 1, by omega, by go_num, by rw [← HD.out]⟩
            case measure => simp [intOf]; omega
          · obtain rfl : p = m := by omega
            have HT : Hid ((be n W).take (W - p) = (be n W).take (W - (p + 1)) ++ [UInt8.ofNat (n / 256 ^ p)]) := be_take n W p (by omega)
            generalize n / 256 ^ p = x at *
            clear hn63
            have hxx : (x : Int) % 256 = ((UInt8.ofNat x).toNat : Int) := by rw [ofNat_toNat]; omega
            have HX : Hid ((x : Int) % 256 = ((UInt8.ofNat x).toNat : Int)) := hxx
            clear hxx
            have hW8 : Hid (W ≤ 8) := by have := HW.out; show W ≤ 8; omega
            go_wp2_with (at_builtin; refine wpList_append_own _ rfl _ _ 51 rfl B 5 i0 (.int .u8 0) 1 1 Tryz.underlying51 hi hz0 hz1 hz2 rfl (by decide) _ _ _ rfl (HO.out.alloc _) ⟨wr.heap.size, 0, none⟩ 1 1 [.int .u8 ((x : Int) % 256)] rfl rfl (one_new _ _ _) (one_byte _) (small_len hW8.out) (small_bytes hW8.out) (size_new HZ.out _) ?_)
            intro v' w1 hown' hgrow _
            have hown2 : Hid (w1.ownsRow B 5 1 v' (W - p) (bc ((be n W).take (W - p)))) := by
              show w1.ownsRow B 5 1 v' (W - p) (bc ((be n W).take (W - p)))
              rw [HT.out, bc_snoc, ← HX.out, show W - p = W - (p + 1) + 1 by omega]
              exact hown'
            have hbel : Hid (Below B w w1) := (HS.out.alloc HZ.out _).grown hgrow (by have := HZ.out; simp; omega) (fun k hk => (HO.out.lt k hk).1)
            have hsz : Hid (B ≤ w1.heap.size) := by have := HZ.out; have := hgrow.size; simp at this; show B ≤ _; omega
            clear hown' hgrow
            go_wp2
            go_roundw
            case rel => exact ⟨p, by omega, rfl, hbel, hsz, hown2⟩
            case measure => simp [intOf]
  · obtain ⟨W, hW⟩ : ∃ W, W = 8 := ⟨_, rfl⟩
    have HW : Hid (W = 8) := hW
    clear hW
    have hi1 : (64 : Int) ≤ (n : Int) := by omega
    have hi2 : (16384 : Int) ≤ (n : Int) := by omega
    have hi3 : (1073741824 : Int) ≤ (n : Int) := by omega
    have HK : Hid (kindOf n = 3) := hk
    clear hk h1 h
    go_enter Tryz.func94, Tryz.ntmps94
    go_wp2
    have hn63 : (n : Int) ≤ 9223372036854775807 := by omega
    clear hi0 hi1 hi2 hi3
    go_loopw [6, 7, 8, 9] (fun v i b j wr => ∃ q : Nat, q ≤ W ∧ i = .int .i64 ((q : Int) - 1) ∧ Hid (Below B w wr) ∧ Hid (B ≤ wr.heap.size) ∧ Hid (wr.ownsRow B 5 1 v (W - q) (bc ((be n W).take (W - q))))) (fun _ i _ _ _ => (intOf i + 1).toNat)
    case atStart =>
      have e := HW.out
      subst e
      exact ⟨8, Nat.le_refl _, rfl, S0, hZ, O0⟩
    case round =>
      obtain ⟨q, hq, rfl, HS, HZ, HO⟩ := hrel
      rcases q with _ | m
      · have hW1 : 0 < W := by have := HW.out; omega
        obtain ⟨v, hv⟩ : ∃ v, v + 1 = W := ⟨W - 1, by omega⟩
        obtain ⟨hc0, HLe⟩ := HL.out v (by rw [HK.out, hv, HW.out]; rfl)
        have hbe := be_cons n v
        rw [hv] at hbe
        have HO2 := HO.out
        rw [Nat.sub_zero, List.take_of_length_le (by rw [be_length]; exact Nat.le_refl _), hbe] at HO2
        obtain ⟨g, cap, hu⟩ := own_form HO2 hW1
        rw [HK.out] at HLe
        generalize n / 256 ^ v = c at *
        have hc0i : (c : Int) < 64 := by omega
        have hu8 : (UInt8.ofNat c).toNat = c := by rw [ofNat_toNat]; omega
        obtain ⟨hg, h0, hf, ht⟩ := own_first c 3 (be n v) v W cap g u6 hv hu hc0 hu8 (by omega) HO2
        rw [← HLe] at ht
        have hcv : (convert 51 9 (.slice (some ⟨g, 0, none⟩) W cap)).run Tryz.prog (wr.setCell ⟨g, 0, none⟩ (.int .u8 ((c : Int) + 192))) = .ok (.string ⟨L.toArray⟩) (wr.setCell ⟨g, 0, none⟩ (.int .u8 ((c : Int) + 192))) := by
          have := ht
          simpa using this
        have HE : Hid (Below B w (wr.setCell ⟨g, 0, none⟩ (.int .u8 ((c : Int) + 192)))) := HS.out.setCell hg _
        subst hu
        clear ht HLe HO HO2 hbe hv hn63 hu8
        go_wp2
        go_ret2
        exact ⟨rfl, HB.out ▸ HE.out⟩
      · rw [show ((m + 1 : Nat) : Int) - 1 = (m : Int) by omega]
        have hm : (m : Int) ≤ 8 := by have := HW.out; omega
        go_wp2
        go_loop [8, 9] (fun b j => ∃ p : Nat, p ≤ m ∧ j = .int .i64 p ∧ b = .int .u64 ((n / 256 ^ p : Nat) : Int)) (fun _ j => m - (intOf j).toNat)
        case atStart => exact ⟨0, Nat.zero_le _, rfl, by simp⟩
        case round =>
          obtain ⟨p, hp, rfl, rfl⟩ := hrel
          by_cases hlt : p < m
          · have HD : Hid (n / 256 ^ p / 256 = n / 256 ^ (p + 1)) := by show _ = _; rw [Nat.div_div_eq_div_mul, ← Nat.pow_succ]
            have hx : n / 256 ^ p ≤ n := Nat.div_le_self _ _
            generalize n / 256 ^ p = x at *
            have hxw : IntKind.u64.wrap ((x : Int) / 256) = ((x / 256 : Nat) : Int) := by rw [IntKind.wrap_u64]; omega
            have HX : Hid (x ≤ n) := hx
            clear hx hn63
            generalize hy : x / 256 = y at *
            clear hy
            go_wp2
            go_round
            case rel => exact ⟨p + 1, by omega, by go_num, by rw [← HD.out]⟩
            case measure => simp [intOf]; omega
          · obtain rfl : p = m := by omega
            have HT : Hid ((be n W).take (W - p) = (be n W).take (W - (p + 1)) ++ [UInt8.ofNat (n / 256 ^ p)]) := be_take n W p (by omega)
            generalize n / 256 ^ p = x at *
            clear hn63
            have hxx : (x : Int) % 256 = ((UInt8.ofNat x).toNat : Int) := by rw [ofNat_toNat]; omega
            have HX : Hid ((x : Int) % 256 = ((UInt8.ofNat x).toNat : Int)) := hxx
            clear hxx
            have hW8 : Hid (W ≤ 8) := by have := HW.out; show W ≤ 8; omega
            go_wp2_with (at_builtin; refine wpList_append_own _ rfl _ _ 51 rfl B 5 i0 (.int .u8 0) 1 1 Tryz.underlying51 hi hz0 hz1 hz2 rfl (by decide) _ _ _ rfl (HO.out.alloc _) ⟨wr.heap.size, 0, none⟩ 1 1 [.int .u8 ((x : Int) % 256)] rfl rfl (one_new _ _ _) (one_byte _) (small_len hW8.out) (small_bytes hW8.out) (size_new HZ.out _) ?_)
            intro v' w1 hown' hgrow _
            have hown2 : Hid (w1.ownsRow B 5 1 v' (W - p) (bc ((be n W).take (W - p)))) := by
              show w1.ownsRow B 5 1 v' (W - p) (bc ((be n W).take (W - p)))
              rw [HT.out, bc_snoc, ← HX.out, show W - p = W - (p + 1) + 1 by omega]
              exact hown'
            have hbel : Hid (Below B w w1) := (HS.out.alloc HZ.out _).grown hgrow (by have := HZ.out; simp; omega) (fun k hk => (HO.out.lt k hk).1)
            have hsz : Hid (B ≤ w1.heap.size) := by have := HZ.out; have := hgrow.size; simp at this; show B ≤ _; omega
            clear hown' hgrow
            go_wp2
            go_roundw
            case rel => exact ⟨p, by omega, rfl, hbel, hsz, hown2⟩
            case measure => simp [intOf]
theorem refPut_any (n : Nat) (hn : n < 18446744073709551616) (w : World) : Calls Tryz.prog 94 #[.int .u64 (n : Int)] w fun e w' => e = .returned (.tuple #[.string (putE n).1, .int .i64 ((putE n).2 : Int)]) ∧ Below w.heap.size w w' := by
  by_cases h : n < 4611686018427387904
  · have e : putE n = (⟨(enc n).toArray⟩, 0) := by unfold putE; rw [if_pos h]
    rw [e]
    exact refPut_small n h w
  · exact refPut_big n hn h w
theorem refText_any (t : ByteArray) (ht : t.size ≤ 140737488355328) (w : World) : Calls Tryz.prog 68 #[.string t] w fun e w' => e = .returned (.string (textE t)) ∧ Below w.heap.size w w' := by
  have hp := refPut_small t.size (by omega)
  have hl : (⟨(enc t.size).toArray⟩ : ByteArray).size ≤ 8 := by
    show (enc t.size).toArray.size ≤ 8
    simp [enc_length]
    exact (wide_pos _).2
  unfold textE
  generalize (⟨(enc t.size).toArray⟩ : ByteArray) = E at *
  go_enter Tryz.func68, Tryz.ntmps68
  go_wp2_with (go_at_call 94; refine (hp _).mono ?_; rintro e w1 ⟨rfl, hb1⟩)
  go_ret
  exact ⟨rfl, hb1⟩
end Go.Proofs.YtioeidhblbfgmaaGreat
