/- The reference's store: a key's place, the bytes of all. Rows of records that the reference makes: a row of one's own, a row that is read, the join of the two, a part of a row. The reference's row of records with one left out; its range. The reference's range of a store: by rising keys. The reference's digest of a range; its new store. The reference's new store. -/
import Derived.Test.YthgbdaladngpdaaGreatP19
/- The reference's store: a key's place, the bytes of all. -/
namespace Go.Proofs.YthgbdaladngpdaaGreat
open Go.ChangeShapes Go.WideShapes Go.ChangeAt Go.RowKit
open Go.Proofs.YthgbdaladngpdaaGreat.Whl (Tn tn_kept tn_refl tn_trans tn_set tn_alloc at_tn kept_tn It)
set_option linter.unusedVariables false
set_option linter.unusedSimpArgs false
set_option maxRecDepth 100000

theorem text_eq {a b : ByteArray} (h : a = b) : (a.toList == b.toList) = true := by rw [h]; simp
theorem text_ne {a b : ByteArray} (h : a ≠ b) : (a.toList == b.toList) = false := by
  have := bytes_ne h
  simpa using this
theorem rdr_at {w : World} {a : Option Addr} {len cap : Nat} {L : List R} (h : RdR w (.slice a len cap) L) : L.length = len ∧ (∀ j, j < len → ∃ q, a = some ⟨q, 0, none⟩ ∧ ∃ r, L[j]? = some r ∧ C8 w q (j * 8) r) := by
  obtain ⟨a2, cap2, e, h⟩ := h
  injection e with e1 e2 e3
  subst e1 e2 e3
  refine ⟨rfl, fun j hj => ?_⟩
  obtain ⟨q, e, _, hc⟩ := h (by omega)
  exact ⟨q, e, L[j], List.getElem?_eq_getElem hj, hc j _ (List.getElem?_eq_getElem hj)⟩
/- A key's place. -/
def AtR (L : List R) (k : ByteArray) (z : Int) : Prop := (z = -1 ∧ findK L k = none) ∨ ∃ j : Nat, z = (j : Int) ∧ j < L.length ∧ ∃ r, L[j]? = some r ∧ r.key = k
theorem atr_none {L : List R} {k : ByteArray} {n : Nat} (hn : L.length = n) (h : ∀ i r, i < n → L[i]? = some r → r.key ≠ k) : AtR L k (-1) := by
  refine Or.inl ⟨rfl, find_none.2 (fun r hr => ?_)⟩
  obtain ⟨i, hi, e⟩ := List.mem_iff_getElem.1 hr
  exact h i r (by omega) (by rw [List.getElem?_eq_getElem hi, e])
set_option maxHeartbeats 1600000 in
theorem refat_any {cs : Array Value} {c : Cf} {s : MS} (hl : s.L.length ≤ 1024) (k : ByteArray) (w : World) (h : RS w cs c s) :
    Calls Tryz.prog 19 #[.agg cs, .string k] w fun e w' => ∃ z, e = .returned (.int .i64 z) ∧ Kept w w' ∧ AtR s.L k z := by
  obtain ⟨v, hs, hr, _⟩ := h
  obtain ⟨a, cap, rfl, hr0⟩ := id hr
  have HL := hid (rdr_kept hr (kept_alloc (kept_refl w) (.cells cs 36)))
  have A0 := at_new w cs 36
  have K0 := kept_alloc (kept_refl w) (.cells cs 36)
  obtain ⟨w0, hw0⟩ : ∃ w0, w.alloc (.cells cs 36) = w0 := ⟨_, rfl⟩
  obtain ⟨Z, hZ⟩ : ∃ Z, w.heap.size = Z := ⟨_, rfl⟩
  rw [hw0] at A0 K0 HL
  rw [hZ] at A0
  have c0 := (at_cell A0 0).trans hs.row
  obtain ⟨n, hn⟩ : ∃ n, s.L.length = n := ⟨_, rfl⟩
  rw [hn] at c0 hl HL
  have HK := hid K0
  have Hn := hid hn
  clear A0 hr hr0 K0 hn
  go_enter Tryz.func19, Tryz.ntmps19
  go_wp2_with fail
  go_loopw [5, 9] (fun _ i wr => ∃ j : Nat, j ≤ n ∧ i = .int .i64 (j : Int) ∧ Hid (∀ i r, i < j → s.L[i]? = some r → r.key ≠ k) ∧ wr = w0) (fun _ i _ => n - (intOf i).toNat)
  case atStart => exact ⟨0, Nat.zero_le _, rfl, hid (fun i r hi => absurd hi (by omega)), rfl⟩
  case round =>
    clear hw0
    obtain ⟨j, hj, rfl, HN, rfl⟩ := hrel
    by_cases hlt : j < n
    · obtain ⟨q, rfl, r, hr, r0, r1, r2, r3, r4, r5, r6, r7⟩ := (rdr_at HL.out).2 j hlt
      have hq := idxR q n cap j hlt (by omega)
      by_cases he : r.key = k
      · have hb := text_eq he
        have HE := hid he
        clear he
        have Hr := hid hr
        clear hr r1 r2 r3 r4 r5 r6 r7
        go_wp2_with fail
        go_ret
        exact ⟨_, rfl, HK.out, Or.inr ⟨j, rfl, by rw [Hn.out]; exact hlt, r, Hr.out, HE.out⟩⟩
      · have hb := text_ne he
        have HN2 : Hid (∀ i r, i < j + 1 → s.L[i]? = some r → r.key ≠ k) := hid (fun i r' hi hx => by
          rcases Nat.lt_succ_iff_lt_or_eq.1 hi with g | g
          · exact HN.out i r' g hx
          · rw [g, hr] at hx
            injection hx with hx
            rw [← hx]; exact he)
        clear he hr r1 r2 r3 r4 r5 r6 r7
        go_wp2_with fail
        go_roundw
        case rel => exact ⟨j + 1, by omega, by go_num, HN2, trivial⟩
        case measure => simp [intOf]; omega
    · go_wp2_with fail
      go_ret
      exact ⟨_, rfl, HK.out, atr_none Hn.out (fun i r hi => HN.out i r (by omega))⟩
theorem size_take {L : List R} {j : Nat} {r : R} (h : L[j]? = some r) : sizeL (L.take (j + 1)) = sizeL (L.take j) + (r.key.size + r.body.size) := by
  have hj : j < L.length := (List.getElem?_eq_some_iff.1 h).1
  have e : L[j] = r := (List.getElem?_eq_some_iff.1 h).2
  rw [← List.take_append_getElem hj, size_app, e]
  rfl
theorem size_le : ∀ (L : List R) (j : Nat), sizeL (L.take j) ≤ sizeL L
  | [], j => by simp
  | x :: l, 0 => by simp [sizeL]
  | x :: l, j + 1 => by
    have := size_le l j
    simp only [List.take_succ_cons, sizeL]
    omega
set_option maxHeartbeats 1600000 in
theorem refsize_any {cs : Array Value} {c : Cf} {s : MS} (hl : s.L.length ≤ 1024) (hz : sizeL s.L ≤ 1073741824) (w : World) (h : RS w cs c s) :
    Calls Tryz.prog 24 #[.agg cs] w fun e w' => e = .returned (.int .i64 (sizeL s.L : Int)) ∧ Kept w w' := by
  obtain ⟨v, hs, hr, _⟩ := h
  obtain ⟨a, cap, rfl, hr0⟩ := id hr
  have HL := hid (rdr_kept hr (kept_alloc (kept_refl w) (.cells cs 36)))
  have A0 := at_new w cs 36
  have K0 := kept_alloc (kept_refl w) (.cells cs 36)
  obtain ⟨w0, hw0⟩ : ∃ w0, w.alloc (.cells cs 36) = w0 := ⟨_, rfl⟩
  obtain ⟨Z, hZ⟩ : ∃ Z, w.heap.size = Z := ⟨_, rfl⟩
  rw [hw0] at A0 K0 HL
  rw [hZ] at A0
  have c0 := (at_cell A0 0).trans hs.row
  obtain ⟨n, hn⟩ : ∃ n, s.L.length = n := ⟨_, rfl⟩
  rw [hn] at c0 hl HL
  have HK := hid K0
  have Hn := hid hn
  have HE : Hid (sizeL (s.L.take n) = sizeL s.L) := hid (by rw [← hn, List.take_length])
  have HT : Hid (∀ j, sizeL (s.L.take j) ≤ 1073741824) := hid (fun j => Nat.le_trans (size_le _ _) hz)
  clear A0 hr hr0 K0 hn hz
  go_enter Tryz.func24, Tryz.ntmps24
  go_wp2_with fail
  go_loopw [3, 4, 8] (fun t _ i wr => ∃ (j z : Nat), j ≤ n ∧ i = .int .i64 (j : Int) ∧ t = .int .i64 (z : Int) ∧ Hid (z = sizeL (s.L.take j)) ∧ ∃ d, wr = w0.drewN d) (fun _ _ i _ => n - (intOf i).toNat)
  case atStart => exact ⟨0, 0, Nat.zero_le _, rfl, rfl, hid (by simp [sizeL]), 0, rfl⟩
  case round =>
    clear hw0
    obtain ⟨j, z, hj, rfl, rfl, HZ, d, rfl⟩ := hrel
    by_cases hlt : j < n
    · obtain ⟨q, rfl, r, hr, r0, r1, r2, r3, r4, r5, r6, r7⟩ := (rdr_at HL.out).2 j hlt
      have hq := idxR q n cap j hlt (by omega)
      have HS := hid (size_take hr)
      have h1 : z + (r.key.size + r.body.size) ≤ 1073741824 := by rw [HZ.out, ← HS.out]; exact HT.out _
      clear hr r1 r2 r3 r4 r5 r6
      go_wp2_with fail
      go_quiet (fail)
      go_wp2_with fail
      go_roundw
      case rel => exact ⟨j + 1, z + (r.key.size + r.body.size), by omega, by go_num, by go_num, hid (by rw [HS.out, HZ.out]), _, rfl⟩
      case measure => simp [intOf]; omega
    · go_wp2_with fail
      go_ret
      have hjn : j = n := by omega
      refine ⟨?_, kept_drewN HK.out d⟩
      rw [HZ.out, hjn, HE.out]
      rfl
end Go.Proofs.YthgbdaladngpdaaGreat

/- Rows of records that the reference makes: a row of one's own, a row that is read, the join of the two, a part of a row. -/
namespace Go.Proofs.YthgbdaladngpdaaGreat
open Go.ChangeShapes Go.WideShapes Go.ChangeAt Go.RowKit
open Go.Proofs.YthgbdaladngpdaaGreat.Whl (Tn tn_kept tn_refl tn_trans tn_set tn_alloc at_tn kept_tn It)
set_option linter.unusedVariables false
set_option linter.unusedSimpArgs false
set_option maxRecDepth 100000

def Own (w : World) (B : Nat) (v : Value) (L : List R) : Prop := w.ownsRow B 42 8 v L.length (flat L) ∧ v ≠ .slice none 0 0
def Src (w : World) (x : Value) (L : List R) : Prop := ∃ a cap, x = .slice a L.length cap ∧ (0 < L.length → ∃ ad, a = some ad ∧ ∀ j u, (flat L)[j]? = some u → w.cell? (ad.add j) = some u)
theorem flat_len : ∀ (L : List R), (flat L).length = L.length * 8
  | [] => rfl
  | r :: l => by
    have := flat_len l
    simp only [flat, List.flatMap_cons, List.length_append, List.length_cons] at *
    rw [this]
    simp only [cellsL, List.length_cons, List.length_nil]
    omega
theorem flat_one (r : R) : flat [r] = cellsL r := by simp [flat]
theorem flat_app (a b : List R) : flat (a ++ b) = flat a ++ flat b := by simp [flat]
theorem flat_ones : ∀ (L : List R), ∀ u ∈ flat L, u.oneCell' = true
  | [], u, h => by simp [flat] at h
  | r :: l, u, h => by
    simp only [flat, List.flatMap_cons, List.mem_append] at h
    rcases h with h | h
    · exact rec_one r u h
    · exact flat_ones l u h
theorem flat_cell {w : World} {q o : Nat} {L : List R} (h : ∀ i r, L[i]? = some r → C8 w q (o + i * 8) r) : ∀ j u, (flat L)[j]? = some u → w.cell? ⟨q, o + j, none⟩ = some u := by
  intro j u hu
  have hj : j < L.length * 8 := by rw [← flat_len]; exact (List.getElem?_eq_some_iff.1 hu).1
  have hd : j / 8 < L.length := by omega
  obtain ⟨c0, c1, c2, c3, c4, c5, c6, c7⟩ := h (j / 8) _ (List.getElem?_eq_getElem hd)
  have e : j = j / 8 * 8 + j % 8 := by omega
  have hu2 : (flat L)[j / 8 * 8 + j % 8]? = some u := by rw [← e]; exact hu
  rw [flat_get L (j / 8) (j % 8) hd (by omega)] at hu2
  have e2 : o + j = o + j / 8 * 8 + j % 8 := by omega
  have hm : j % 8 < 8 := by omega
  rw [e2]
  generalize j % 8 = m at hu2 hm ⊢
  match m, hm with
  | 0, _ => injection hu2 with hu2; rw [← hu2]; exact c0
  | 1, _ => injection hu2 with hu2; rw [← hu2]; exact c1
  | 2, _ => injection hu2 with hu2; rw [← hu2]; exact c2
  | 3, _ => injection hu2 with hu2; rw [← hu2]; exact c3
  | 4, _ => injection hu2 with hu2; rw [← hu2]; exact c4
  | 5, _ => injection hu2 with hu2; rw [← hu2]; exact c5
  | 6, _ => injection hu2 with hu2; rw [← hu2]; exact c6
  | 7, _ => injection hu2 with hu2; rw [← hu2]; exact c7
theorem add_plain (q o j : Nat) : (⟨q, o, none⟩ : Addr).add j = ⟨q, o + j, none⟩ := Addr.add_mid q o j
theorem src_rdr {w : World} {v : Value} {L : List R} (h : RdR w v L) : Src w v L := by
  obtain ⟨a, cap, rfl, h⟩ := h
  refine ⟨a, cap, rfl, fun hp => ?_⟩
  obtain ⟨q, rfl, _, hc⟩ := h hp
  refine ⟨_, rfl, fun j u hu => ?_⟩
  rw [add_plain]
  exact flat_cell (fun i r hr => by rw [Nat.zero_add]; exact hc i r hr) j u hu
theorem src_take {w : World} {q n cap : Nat} {L : List R} (h : RdR w (.slice (some ⟨q, 0, none⟩) n cap) L) {k : Nat} (hk : k ≤ n) : Src w (.slice (some ⟨q, 0, none⟩) k cap) (L.take k) := by
  obtain ⟨hl, hc⟩ := rdr_at h
  refine ⟨some ⟨q, 0, none⟩, cap, by rw [List.length_take, hl, Nat.min_eq_left hk], fun _ => ⟨_, rfl, fun j u hu => ?_⟩⟩
  rw [add_plain]
  refine flat_cell (fun i r hr => ?_) j u hu
  have hi : i < k := by have := (List.getElem?_eq_some_iff.1 hr).1; simp at this; omega
  rw [List.getElem?_take_of_lt hi] at hr
  obtain ⟨q2, e, r2, h2, c⟩ := hc i (by omega)
  injection e with e
  injection e with e
  rw [hr] at h2
  injection h2 with h2
  rw [Nat.zero_add, e, h2]; exact c
def dropA (q cap k : Nat) : Addr := if cap = k then ⟨q, 0, none⟩ else ⟨q, k * 8, none⟩
theorem src_drop {w : World} {q n cap : Nat} {L : List R} (h : RdR w (.slice (some ⟨q, 0, none⟩) n cap) L) {k : Nat} (hk : k ≤ n) (hn : n ≤ cap) : Src w (.slice (some (dropA q cap k)) (n - k) (cap - k)) (L.drop k) := by
  obtain ⟨hl, hc⟩ := rdr_at h
  refine ⟨some (dropA q cap k), cap - k, by rw [List.length_drop, hl], fun hp => ⟨_, rfl, fun j u hu => ?_⟩⟩
  rw [List.length_drop, hl] at hp
  unfold dropA
  rw [if_neg (by omega), add_plain]
  refine flat_cell (fun i r hr => ?_) j u hu
  rw [List.getElem?_drop] at hr
  have hi : k + i < n := by rw [← hl]; exact (List.getElem?_eq_some_iff.1 hr).1
  obtain ⟨q2, e, r2, h2, c⟩ := hc (k + i) hi
  injection e with e
  injection e with e
  rw [hr] at h2
  injection h2 with h2
  rw [h2, e, ← Nat.add_mul]; exact c
theorem src_kept {w w' : World} {x : Value} {L : List R} (h : Src w x L) (k : Kept w w') : Src w' x L := by
  obtain ⟨a, cap, rfl, h⟩ := h
  refine ⟨a, cap, rfl, fun hp => ?_⟩
  obtain ⟨ad, rfl, hc⟩ := h hp
  refine ⟨ad, rfl, fun j u hu => ?_⟩
  have h1 := hc j u hu
  have h2 := World.block_lt_of_cell? _ _ h1
  rw [← h1]
  exact World.cell?_of_block (kept_block k h2)
theorem src_one {w : World} {g : Nat} {r : R} (h : At w g #[.string r.key, .int .u64 r.s.p, .int .u32 r.s.l, .int .u8 r.s.n, .int .u8 r.kind, .int .u32 r.flags, .int .u64 r.exp, .string r.body] 42) : Src w (.slice (some ⟨g, 0, none⟩) 1 1) [r] :=
  ⟨_, 1, rfl, fun _ => ⟨_, rfl, fun j u hu => by rw [flat_one] at hu; exact rec_new h j u hu⟩⟩
theorem own_one {w : World} {B g : Nat} {r : R} (h : At w g #[.string r.key, .int .u64 r.s.p, .int .u32 r.s.l, .int .u8 r.s.n, .int .u8 r.kind, .int .u32 r.flags, .int .u64 r.exp, .string r.body] 42) (hB : B ≤ g) : Own w B (.slice (some ⟨g, 0, none⟩) 1 1) [r] :=
  ⟨⟨rfl, Or.inr ⟨g, 1, _, rfl, hB, h, Nat.le_refl _, by unfold maxLen; omega, rfl, rfl⟩⟩, by simp⟩
theorem own_zero {w : World} {B g : Nat} (h : At w g #[] 42) (hB : B ≤ g) : Own w B (.slice (some ⟨g, 0, none⟩) 0 0) [] :=
  ⟨⟨rfl, Or.inr ⟨g, 0, _, rfl, hB, h, Nat.le_refl _, by unfold maxLen; omega, rfl, rfl⟩⟩, by simp⟩
theorem own_kept {w w' : World} {B : Nat} {v : Value} {L : List R} (h : Own w B v L) (k : Kept w w') : Own w' B v L := ⟨ownr_kept h.1 k, h.2⟩
theorem own_base {w : World} {B C : Nat} {v : Value} {L : List R} (h : Own w C v L) (hB : B ≤ C) : Own w B v L := by
  obtain ⟨⟨h0, h⟩, hn⟩ := h
  refine ⟨⟨h0, ?_⟩, hn⟩
  rcases h with h | ⟨g, cap, cur, e, hb, h⟩
  · exact Or.inl h
  · exact Or.inr ⟨g, cap, cur, e, Nat.le_trans hB hb, h⟩
theorem own_is {w : World} {B : Nat} {v : Value} {L : List R} (h : Own w B v L) : ∃ g cap, v = .slice (some ⟨g, 0, none⟩) L.length cap ∧ B ≤ g ∧ L.length ≤ cap ∧ cap ≤ maxLen := by
  obtain ⟨⟨_, h⟩, hn⟩ := h
  rcases h with ⟨e, _⟩ | ⟨g, cap, cur, e, hb, _, h1, h2, _⟩
  · exact absurd e hn
  · exact ⟨g, cap, e, hb, h1, h2⟩
theorem own_as {w : World} {B : Nat} {v : Value} {L : List R} (h : Own w B v L) : ∃ g n cap, v = .slice (some ⟨g, 0, none⟩) n cap ∧ Hid (n = L.length ∧ B ≤ g ∧ n ≤ cap ∧ cap ≤ maxLen) := by
  obtain ⟨g, cap, e, h1, h2, h3⟩ := own_is h
  exact ⟨g, _, cap, e, hid ⟨rfl, h1, h2, h3⟩⟩
theorem rdl_own {w : World} {B : Nat} {v : Value} {L : List R} (h : Own w B v L) : RdL w v L := by
  obtain ⟨g, cap, rfl, hb, h1, h2⟩ := own_is h
  refine ⟨⟨_, cap, rfl, fun hp => ⟨g, rfl, (h.1.lt g rfl).2, fun i r hr => ?_⟩⟩, _, cap, rfl, h1, h2⟩
  have hi := (List.getElem?_eq_some_iff.1 hr).1
  have e := (List.getElem?_eq_some_iff.1 hr).2
  rw [← e]
  exact own_c8 h.1 i hi
theorem kept_own {W w w' : World} {B : Nat} {v : Value} {L : List R} (h : Own w B v L) (k : Kept W w) (hB : W.heap.size ≤ B) (g : w.grownBy w' v.ownBlock) : Kept W w' :=
  Whl.kept_grown k g (fun q hq => Nat.le_trans hB (h.1.lt q hq).1)
theorem app_none {w : World} {g n cap c : Nat} (h : n ≤ cap) (ty : TypeId) : (Builtin.append_ #[29, 29] ty #[.slice (some ⟨g, 0, none⟩) n cap, .slice none 0 c]).run Tryz.prog w = .ok (.slice (some ⟨g, 0, none⟩) n cap) w := by
  obtain ⟨i0, hi, hz0, hz1, hz2⟩ := info_parts (P := Tryz.prog) (e := 42) info42
  simp [Builtin.append_, run_underlying Tryz.underlying29, sizeOf, typeInfo, hi, Builtin.lenOf, Builtin.firstCells, h, storeCells]
theorem run_app {w : World} {B : Nat} {v x : Value} {L M : List R} (ho : Own w B v L) (hx : Src w x M) (hl : L.length + M.length ≤ 4096) (hB : B ≤ w.heap.size) (ty : TypeId) :
    ∃ v' w', (Builtin.append_ #[29, 29] ty #[v, x]).run Tryz.prog w = .ok v' w' ∧ Own w' B v' (L ++ M) ∧ w.grownBy w' v.ownBlock := by
  obtain ⟨i0, hi, hz0, hz1, hz2⟩ := info_parts (P := Tryz.prog) (e := 42) info42
  obtain ⟨a, c, rfl, hx⟩ := hx
  have hgo : ∀ ad, a = some ad → (∀ j u, (flat M)[j]? = some u → w.cell? (ad.add j) = some u) → ∃ v' w', (Builtin.append_ #[29, 29] ty #[v, .slice a M.length c]).run Tryz.prog w = .ok v' w' ∧ Own w' B v' (L ++ M) ∧ w.grownBy w' v.ownBlock := fun ad e hc => by
    obtain ⟨v', w', h1, h2, h3, h4⟩ := run_append_own (P := Tryz.prog) w B 29 ty 42 i0 _ 8 64 Tryz.underlying29 hi hz0 hz1 hz2 rfl (by decide) v L.length (flat L) ho.1 ad M.length c (flat M) (flat_len M) hc (flat_ones M) (by unfold maxLen; omega) (by omega) hB
    refine ⟨v', w', by rw [e]; exact h1, ⟨by rw [List.length_append, flat_app]; exact h2, fun e => ho.2 (h4.1 e).1⟩, h3⟩
  cases M with
  | cons m M =>
    obtain ⟨ad, e, hc⟩ := hx (by simp)
    exact hgo ad e hc
  | nil =>
    cases a with
    | some ad => exact hgo ad rfl (fun j u hu => by simp [flat] at hu)
    | none =>
      obtain ⟨g, cap, rfl, _, h1, _⟩ := own_is ho
      exact ⟨_, w, app_none h1 ty, by rw [List.append_nil]; exact ho, ⟨rfl, rfl, rfl, Nat.le_refl _, fun _ _ _ => rfl⟩⟩
theorem wpList_app {ops : Array Oper} {rest : List Oper} {o : Oper} {act : Act} {w : World} {Q : Exit → Act → World → Prop} (hgd : o.guard = none) (s t : Operand)
    (ho : o.op = .call { callee := .builtin .append, args := #[s, t], argTypes := #[29, 29] }) (B : Nat) (v x : Value) (L M : List R) (hs : act.eval s = v) (hw : Own w B v L) (ht : act.eval t = x) (hx : Src w x M)
    (hl : L.length + M.length ≤ 4096) (hB : B ≤ w.heap.size) (h : ∀ v' w', Own w' B v' (L ++ M) → w.grownBy w' v.ownBlock → wpList Tryz.prog ops Q rest (act.put o.dst v') w') : wpList Tryz.prog ops Q (o :: rest) act w :=
  wpList_plain hgd fun _ hK => by
    obtain ⟨v', w', hr, h2, h3⟩ := run_app hw hx hl hB o.type
    unfold Oper.wp execOp
    simp only [ho, resolve, invoke, builtin, Sem.run_bind, Sem.run_pure, Result.andThen_ok, List.map_toArray, List.map_cons, List.map_nil, hs, ht, hr]
    exact hK _ _ (h v' w' h2 h3)
theorem sl_hi (q n cap k : Nat) (hk : k ≤ n) (hn : n ≤ cap) (hc : cap ≤ maxLen) (w : World) : (Instr.sliceAt 29 (.slice (some ⟨q, 0, none⟩) n cap) none (some (.int .i64 (k : Int))) none).run Tryz.prog w = .ok (.slice (some ⟨q, 0, none⟩) k cap) w := by
  unfold maxLen at hc
  have h1 : (k : Int) ≤ (cap : Int) := by omega
  have h2 : ¬ ((k : Int) < 0) := by omega
  have h3 : (⟨q, 0, none⟩ : Addr).add 0 = ⟨q, 0, none⟩ := add_plain q 0 0
  go_simp
theorem sl_lo (q n cap k : Nat) (hk : k ≤ n) (hn : n ≤ cap) (hc : cap ≤ maxLen) (w : World) : (Instr.sliceAt 29 (.slice (some ⟨q, 0, none⟩) n cap) (some (.int .i64 (k : Int))) none none).run Tryz.prog w = .ok (.slice (some (dropA q cap k)) (n - k) (cap - k)) w := by
  unfold maxLen at hc
  have h1 : (k : Int) ≤ (n : Int) := by omega
  have h2 : ¬ ((k : Int) < 0) := by omega
  have h3 : (⟨q, 0, none⟩ : Addr).add (k * 8) = ⟨q, k * 8, none⟩ := by rw [add_plain, Nat.zero_add]
  unfold dropA
  go_simp
  split <;> rfl
end Go.Proofs.YthgbdaladngpdaaGreat

/- The reference's row of records with one left out; its range. -/
namespace Go.Proofs.YthgbdaladngpdaaGreat
open Go.ChangeShapes Go.WideShapes Go.ChangeAt Go.RowKit
open Go.Proofs.YthgbdaladngpdaaGreat.Whl (Tn tn_kept tn_refl tn_trans tn_set tn_alloc at_tn kept_tn It)
set_option linter.unusedVariables false
set_option linter.unusedSimpArgs false
set_option maxRecDepth 100000

def WoC (L : List R) (k : Nat) (w : World) (e : Ending) (w' : World) : Prop := ∃ v', e = .returned v' ∧ Kept w w' ∧ Own w' w.heap.size v' (L.take k ++ L.drop (k + 1))
set_option maxHeartbeats 1600000 in
theorem without_any {L : List R} {v : Value} {k : Nat} (hk : k < L.length) (hl : L.length ≤ 1024) (w : World) (h : RdL w v L) :
    Calls Tryz.prog 48 #[v, .int .i64 (k : Int)] w (WoC L k w) := by
  obtain ⟨hr, a, cap, rfl, hc1, hc2⟩ := h
  obtain ⟨q, rfl, _⟩ := (rdr_at hr).2 k hk
  have K0 := kept_alloc (kept_refl w) (.cells #[] 42)
  have A0 := at_new w #[] 42
  obtain ⟨w0, hw0⟩ : ∃ w0, w.alloc (.cells #[] 42) = w0 := ⟨_, rfl⟩
  obtain ⟨Z, hZ⟩ : ∃ Z, w.heap.size = Z := ⟨_, rfl⟩
  rw [hw0] at A0 K0
  rw [hZ] at A0
  have HO := hid (own_zero (B := Z) A0 (Nat.le_refl _))
  have HB : Hid (Z ≤ w0.heap.size) := hid (by rw [← hZ]; exact K0.2)
  have HK := hid K0
  have HR := hid hr
  have s1 := sl_hi q L.length cap k (by omega) hc1 hc2
  have s2 := sl_lo q L.length cap (k + 1) hk hc1 hc2
  rw [show (((k + 1 : Nat)) : Int) = (k : Int) + 1 by omega] at s2
  have HS1 := hid (src_take hr (k := k) (by omega))
  have HS2 := hid (src_drop hr (k := k + 1) (by omega) hc1)
  generalize dropA q cap (k + 1) = dA at s2 HS2
  generalize L.length - (k + 1) = m at s2 HS2
  generalize cap - (k + 1) = c2 at s2 HS2
  have Hl1 : Hid (([] : List R).length + (L.take k).length ≤ 4096) := hid (by simp; omega)
  have Hl2 : Hid (([] ++ L.take k).length + (L.drop (k + 1)).length ≤ 4096) := hid (by simp; omega)
  clear A0 K0 hr
  go_enter Tryz.func48, Tryz.ntmps48
  go_wp2_with (at_builtin; first
    | (refine wpList_app rfl _ _ rfl Z _ _ [] (L.take k) rfl HO.out rfl (src_kept HS1.out HK.out) Hl1.out HB.out ?_; intro v1 w1 hown1 hgrow1; obtain ⟨g1, n1, p1, rfl, H1⟩ := own_as hown1; have HK1 := hid (kept_own HO.out HK.out (by omega) hgrow1); have HO1 := hid hown1; have HB1 : Hid (Z ≤ w1.heap.size) := hid (Nat.le_trans HB.out hgrow1.size); clear hown1 hgrow1)
    | (refine wpList_app rfl _ _ rfl Z _ _ ([] ++ L.take k) (L.drop (k + 1)) rfl HO1.out rfl (src_kept HS2.out HK1.out) Hl2.out HB1.out ?_; intro v2 w2 hown2 hgrow2; obtain ⟨g2, n2, p2, rfl, H2⟩ := own_as hown2; have HK2 := hid (kept_own HO1.out HK1.out (by omega) hgrow2); have HO2 := hid hown2; clear hown2 hgrow2))
  go_ret
  refine ⟨_, rfl, HK2.out, ?_⟩
  have := HO2.out
  rw [List.nil_append] at this
  rw [hZ]
  exact this
end Go.Proofs.YthgbdaladngpdaaGreat

/- The reference's range of a store: by rising keys. -/
namespace Go.Proofs.YthgbdaladngpdaaGreat
open Go.ChangeShapes Go.WideShapes Go.ChangeAt Go.RowKit
open Go.Proofs.YthgbdaladngpdaaGreat.Whl (Tn tn_kept tn_refl tn_trans tn_set tn_alloc at_tn kept_tn It)
set_option linter.unusedVariables false
set_option linter.unusedSimpArgs false
set_option maxRecDepth 100000

theorem less_cmp : ∀ (x y : List UInt8), Op.bytesLess x y = decide (Lib.compareBytes x y < 0)
  | [], [] => by simp [Op.bytesLess, Lib.compareBytes]
  | [], b :: y => by simp [Op.bytesLess, Lib.compareBytes]
  | a :: x, [] => by simp [Op.bytesLess, Lib.compareBytes]
  | a :: x, b :: y => by
    have := less_cmp x y
    unfold Op.bytesLess Lib.compareBytes
    by_cases h1 : a < b
    · simp [h1]
    · by_cases h2 : b < a
      · have h3 : ¬ a = b := fun e => by rw [e] at h2; exact absurd h2 (UInt8.lt_irrefl b)
        simp [h1, h2, h3]
      · have h3 : a = b := UInt8.le_antisymm (UInt8.not_lt.1 h2) (UInt8.not_lt.1 h1)
        simp [h1, h2, h3, this]
theorem key_lt {a b : ByteArray} (h : cmpB a b < 0) : Op.bytesLess a.toList b.toList = true := by
  rw [less_cmp, ByteArray.toList_eq, ByteArray.toList_eq]; exact decide_eq_true h
theorem key_nlt {a b : ByteArray} (h : ¬ cmpB a b < 0) : Op.bytesLess a.toList b.toList = false := by
  rw [less_cmp, ByteArray.toList_eq, ByteArray.toList_eq]; exact decide_eq_false h
theorem ins_at (x : R) : ∀ (o : List R) (j : Nat), j ≤ o.length → (∀ i y, i < j → o[i]? = some y → cmpB y.key x.key < 0) → (∀ y, o[j]? = some y → ¬ cmpB y.key x.key < 0) → ([] ++ o.take j) ++ [x] ++ o.drop j = insK x o
  | [], j, hj, _, _ => by
    have : j = 0 := by simpa using hj
    subst this
    rfl
  | y :: l, 0, _, _, h => by
    have := h y rfl
    rw [insK, if_neg this]
    rfl
  | y :: l, j + 1, hj, h1, h2 => by
    have e := ins_at x l j (by simpa using hj) (fun i z hi hz => h1 (i + 1) z (by omega) (by simpa using hz)) (fun z hz => h2 z (by simpa using hz))
    rw [insK, if_pos (h1 0 y (by omega) rfl), ← e]
    simp
theorem sort_snoc (l : List R) (x : R) : sortK (l ++ [x]) = insK x (sortK l) := by simp [sortK]
theorem take_snoc {L : List R} {j : Nat} {r : R} (h : L[j]? = some r) : L.take (j + 1) = L.take j ++ [r] := by
  have hj : j < L.length := (List.getElem?_eq_some_iff.1 h).1
  rw [← List.take_append_getElem hj, (List.getElem?_eq_some_iff.1 h).2]
theorem in_yes {L : List R} {j : Nat} {r : R} {k : Int} (h : L[j]? = some r) (hk : inR k r = true) : sortK ((L.take (j + 1)).filter (inR k)) = insK r (sortK ((L.take j).filter (inR k))) := by
  rw [take_snoc h, List.filter_append, List.filter_cons_of_pos hk, List.filter_nil, sort_snoc]
theorem in_no {L : List R} {j : Nat} {r : R} {k : Int} (h : L[j]? = some r) (hk : ¬ inR k r = true) : sortK ((L.take (j + 1)).filter (inR k)) = sortK ((L.take j).filter (inR k)) := by
  rw [take_snoc h, List.filter_append, List.filter_cons_of_neg hk, List.filter_nil, List.append_nil]
set_option maxHeartbeats 6400000 in
theorem refrangeL_any {cs : Array Value} {c : Cf} {s : MS} (hl : s.L.length ≤ 1024) (hm : ∀ r ∈ s.L, mayR r = true) (k : Int) (w : World) (h : RS w cs c s) :
    Calls Tryz.prog 31 #[.agg cs, .int .i64 k] w (RangeC (rangeL k s.L) w) := by
  obtain ⟨v, hs, hr, _⟩ := h
  obtain ⟨a, cap, rfl, hr0⟩ := id hr
  have HL := hid (rdr_kept hr (kept_alloc (kept_refl w) (.cells cs 36)))
  have A0 := at_new w cs 36
  have K0 := kept_alloc (kept_refl w) (.cells cs 36)
  obtain ⟨w0, hw0⟩ : ∃ w0, w.alloc (.cells cs 36) = w0 := ⟨_, rfl⟩
  obtain ⟨Z, hZ⟩ : ∃ Z, w.heap.size = Z := ⟨_, rfl⟩
  rw [hw0] at A0 K0 HL
  rw [hZ] at A0
  have c0 := (at_cell A0 0).trans hs.row
  obtain ⟨N, hN⟩ : ∃ N, s.L.length = N := ⟨_, rfl⟩
  rw [hN] at c0 hl HL
  obtain ⟨wa, hwa⟩ : ∃ wa, w0.alloc (.cells #[] 42) = wa := ⟨_, rfl⟩
  obtain ⟨B, hB⟩ : ∃ B, w0.heap.size = B := ⟨_, rfl⟩
  have Ka := kept_alloc (kept_refl w0) (.cells #[] 42)
  have Aa := at_new w0 #[] 42
  rw [hwa] at Ka Aa
  rw [hB] at Aa
  have HO := hid (own_zero (B := B) Aa (Nat.le_refl _))
  have HKa := hid Ka
  have ca := (at_cell (at_kept A0 Ka) 0).trans hs.row
  rw [hN] at ca
  have HC : Hid (∀ u, Kept w0 u → u.cell? ⟨Z, 0, none⟩ = some (.slice a N cap)) := hid (fun u ku => by rw [← hN]; exact (at_cell (at_kept A0 ku) 0).trans hs.row)
  have HK := hid K0
  have HN := hid hN
  have HBw := hid hB
  have HMy := hid hm
  clear A0 hr hr0 K0 hN Ka Aa hm
  go_enter Tryz.func31, Tryz.ntmps31
  go_wp2_with fail
  clear c0 hw0 hwa ca hB
  go_loopw [5, 6, 7, 8, 13] (fun v _ _ _ i wr => ∃ (j g n p : Nat) (O : List R), j ≤ N ∧ i = .int .i64 (j : Int) ∧ v = .slice (some ⟨g, 0, none⟩) n p ∧ n ≤ j ∧ Hid (Own wr B (.slice (some ⟨g, 0, none⟩) n p) O) ∧ Hid (O = sortK ((s.L.take j).filter (inR k))) ∧ Hid (Kept w0 wr)) (fun _ _ _ _ i _ => N - (intOf i).toNat)
  case atStart => exact ⟨0, B, 0, 0, [], Nat.zero_le _, rfl, rfl, Nat.le_refl _, HO, hid rfl, HKa⟩
  case round =>
    clear HO HKa
    obtain ⟨j, g, n, p, O, hj, rfl, rfl, hnj, HO, HE, HKr⟩ := hrel
    have c0 := HC.out wr HKr.out
    by_cases hlt : j < N
    · have HLr := hid (rdr_kept HL.out HKr.out)
      obtain ⟨q, rfl, r, hr, r0, r1, r2, r3, r4, r5, r6, r7⟩ := (rdr_at HLr.out).2 j hlt
      have hq := idxR q N cap j hlt (by omega)
      have hmay := HMy.out r (List.mem_of_getElem? hr)
      have hks : r.key.size ≤ maxLen := by have := (may_len hmay).2; unfold maxLen; omega
      have hRg := refrange_any r.key hks
      clear hmay hks
      by_cases he : inR k r = true
      · have hkk : (rg r.key : Int) = k := by unfold inR at he; simpa using he
        have HEn := hid (in_yes hr he)
        have heb : ((rg r.key : Int) != k) = false := by rw [hkk]; simp
        generalize rg r.key = kk at hRg heb
        clear he hkk
        have Hr := hid hr
        clear hr
        go_wp2_with fail
        refine (hRg _).mono ?_
        rintro e w1 ⟨rfl, hw1⟩
        rw [hw1]
        clear hw1 w1
        go_wp2_with fail
        have HOr := hid (rdl_own HO.out)
        have hn := (rdr_at HOr.out.1).1
        have HnO := hid hn
        clear hn
        obtain ⟨hp1, hp2⟩ : n ≤ p ∧ p ≤ maxLen := by
          obtain ⟨_, a2, cap2, e2, h1, h2⟩ := HOr.out
          injection e2 with e2 e3 e4
          rw [e3, e4]; exact ⟨h1, h2⟩
        clear hRg heb
        have HC8 : Hid (∀ u, Kept w0 u → C8 u q (j * 8) r) := hid (fun u ku => by
          obtain ⟨q2, e2, r2', h2, c8⟩ := (rdr_at (rdr_kept HL.out ku)).2 j hlt
          injection e2 with e2
          injection e2 with e2
          rw [Hr.out] at h2
          injection h2 with h2
          rw [e2, h2]; exact c8)
        go_loopw [7] (fun t wi => ∃ (m : Nat), m ≤ n ∧ t = .int .i64 (m : Int) ∧ Hid (∀ i y, i < m → O[i]? = some y → cmpB y.key r.key < 0) ∧ ∃ d, wi = wr.drewN d) (fun t _ => n - (intOf t).toNat)
        case atStart => exact ⟨0, Nat.zero_le _, rfl, hid (fun i y hi => absurd hi (by omega)), 0, rfl⟩
        case round =>
          rename_i wi _
          obtain ⟨m, hmn, rfl, HLo, d, rfl⟩ := hrel
          by_cases hlt2 : m < n
          · obtain ⟨g', eg, y, hy, y0, y1, y2, y3, y4, y5, y6, y7⟩ := (rdr_at HOr.out.1).2 m hlt2
            injection eg with eg
            injection eg with eg
            subst eg
            have hq2 := idxR g n p m hlt2 (by omega)
            by_cases hc : cmpB y.key r.key < 0
            · have hb := key_lt hc
              have HLo2 : Hid (∀ i y, i < m + 1 → O[i]? = some y → cmpB y.key r.key < 0) := hid (fun i z hi hz => by
                rcases Nat.lt_succ_iff_lt_or_eq.1 hi with h1 | h1
                · exact HLo.out i z h1 hz
                · rw [h1, hy] at hz
                  injection hz with hz
                  rw [← hz]; exact hc)
              clear hc hy y1 y2 y3 y4 y5 y6 y7 r1 r2 r3 r4 r5 r6 r7
              go_wp2_with fail
              go_quiet (fail)
              go_wp2_with fail
              go_roundw
              case rel => exact ⟨m + 1, by omega, by go_num, HLo2, _, rfl⟩
              case measure => simp [intOf]; omega
            · have hb := key_nlt hc
              have HIns := hid (ins_at r O m (by rw [HnO.out]; omega) HLo.out (fun z hz => by rw [hy] at hz; injection hz with hz; rw [← hz]; exact hc))
              clear hc hy y1 y2 y3 y4 y5 y6 y7 r1 r2 r3 r4 r5 r6 r7
              go_wp2_with fail
              go_quiet (fail)
              have HK2 := hid (kept_trans HKr.out (kept_drewN (kept_drewN (kept_refl wr) d) nq))
              have HRd := hid (rdl_own (own_kept HO.out (kept_drewN (kept_drewN (kept_refl wr) d) nq)))
              clear c0 r0 HLr HOr
              generalize (wr.drewN d).drewN nq = w2 at *
              have K3 := kept_alloc (kept_refl w2) (.cells #[] 42)
              have A3 := at_new w2 #[] 42
              obtain ⟨w3, hw3⟩ : ∃ w3, w2.alloc (.cells #[] 42) = w3 := ⟨_, rfl⟩
              obtain ⟨G, hG⟩ : ∃ G, w2.heap.size = G := ⟨_, rfl⟩
              rw [hw3] at K3 A3
              rw [hG] at A3
              have HOz := hid (own_zero (B := G) A3 (Nat.le_refl _))
              have HG := hid hG
              have HGl : Hid (w2.heap.size ≤ G) := hid (by rw [hG]; exact Nat.le_refl _)
              have HK3 := hid K3
              have HB3 : Hid (G ≤ w3.heap.size) := hid (by rw [← hG]; exact K3.2)
              have HBG : Hid (B ≤ G) := hid (by rw [← hG, ← HBw.out]; exact HK2.out.2)
              have s1 := sl_hi g n p m hmn hp1 hp2
              have s2 := sl_lo g n p m hmn hp1 hp2
              have HSa := hid (src_take HRd.out.1 hmn)
              have HSc := hid (src_drop HRd.out.1 hmn hp1)
              generalize dropA g p m = dA at s2 HSc
              generalize n - m = n2 at s2 HSc
              generalize p - m = p2 at s2 HSc
              have HOl : Hid (O.length ≤ 1024) := hid (by rw [HnO.out]; omega)
              have Hla : Hid (([] : List R).length + (O.take m).length ≤ 4096) := hid (by have := HOl.out; simp; omega)
              have Hlb : Hid (([] ++ O.take m).length + [r].length ≤ 4096) := hid (by have := HOl.out; simp; omega)
              have Hlc : Hid (([] ++ O.take m ++ [r]).length + (O.drop m).length ≤ 4096) := hid (by have := HOl.out; simp; omega)
              clear K3 A3
              go_wp2_with (at_builtin; first
                | (refine wpList_app rfl _ _ rfl G _ _ [] (O.take m) rfl HOz.out rfl (src_kept HSa.out HK3.out) Hla.out HB3.out ?_; intro v4 w4 hown hgrow; obtain ⟨g4, n4, p4, rfl, H4⟩ := own_as hown; have HK4 := hid (kept_own HOz.out HK3.out HGl.out hgrow); obtain ⟨x0, x1, x2, x3, x4, x5, x6, x7⟩ := HC8.out w4 (kept_trans HK2.out HK4.out); have c4 := HC.out w4 (kept_trans HK2.out HK4.out); have K5 := kept_alloc HK4.out (.cells #[.string r.key, .int .u64 r.s.p, .int .u32 r.s.l, .int .u8 r.s.n, .int .u8 r.kind, .int .u32 r.flags, .int .u64 r.exp, .string r.body] 42); have A5 := at_new w4 #[.string r.key, .int .u64 r.s.p, .int .u32 r.s.l, .int .u8 r.s.n, .int .u8 r.kind, .int .u32 r.flags, .int .u64 r.exp, .string r.body] 42; have HO5 := hid (own_kept hown (kept_alloc (kept_refl w4) (.cells #[.string r.key, .int .u64 r.s.p, .int .u32 r.s.l, .int .u8 r.s.n, .int .u8 r.kind, .int .u32 r.flags, .int .u64 r.exp, .string r.body] 42))); obtain ⟨w5, hw5⟩ : ∃ w5, w4.alloc (.cells #[.string r.key, .int .u64 r.s.p, .int .u32 r.s.l, .int .u8 r.s.n, .int .u8 r.kind, .int .u32 r.flags, .int .u64 r.exp, .string r.body] 42) = w5 := ⟨_, rfl⟩; obtain ⟨G5, hG5⟩ : ∃ G5, w4.heap.size = G5 := ⟨_, rfl⟩; rw [hw5] at K5 A5 HO5; rw [hG5] at A5; have HS5 := hid (src_one A5); have HK5 := hid K5; have HB5 : Hid (G ≤ w5.heap.size) := hid (by rw [← HG.out]; exact K5.2); clear hown hgrow K5 A5)
                | (refine wpList_app rfl _ _ rfl G _ _ ([] ++ O.take m) [r] rfl HO5.out rfl HS5.out Hlb.out HB5.out ?_; intro v6 w6 hown hgrow; obtain ⟨g6, n6, p6, rfl, H6⟩ := own_as hown; have HK6 := hid (kept_own HO5.out HK5.out HGl.out hgrow); have HO6 := hid hown; have HB6 : Hid (G ≤ w6.heap.size) := hid (by rw [← HG.out]; exact HK6.out.2); clear hown hgrow)
                | (refine wpList_app rfl _ _ rfl G _ _ ([] ++ O.take m ++ [r]) (O.drop m) rfl HO6.out rfl (src_kept HSc.out HK6.out) Hlc.out HB6.out ?_; intro v7 w7 hown hgrow; obtain ⟨g7, n7, p7, rfl, H7⟩ := own_as hown; have HK7 := hid (kept_own HO6.out HK6.out HGl.out hgrow); have HO7 := hid hown; clear hown hgrow))
              have hn7 : n7 ≤ j + 1 := by
                have e1 := H7.out.1
                rw [HIns.out, (insK_perm r O).length_eq, List.length_cons, HnO.out] at e1
                omega
              have HO8 : Hid (Own w7 B (.slice (some ⟨g7, 0, none⟩) n7 p7) (insK r O)) := hid (by
                rw [← HIns.out]
                exact own_base HO7.out HBG.out)
              go_roundw
              case rel => exact ⟨j + 1, g7, n7, p7, insK r O, by omega, by go_num, rfl, hn7, HO8, hid (by rw [HEn.out, ← HE.out]), hid (kept_trans HK2.out HK7.out)⟩
              case measure => simp [intOf]; omega
          · have HIns := hid (ins_at r O m (by rw [HnO.out]; omega) HLo.out (fun z hz => by rw [List.getElem?_eq_none (by rw [HnO.out]; omega)] at hz; cases hz))
            clear r1 r2 r3 r4 r5 r6 r7
            go_wp2_with fail
            go_quiet (fail)
            have HK2 := hid (kept_trans HKr.out (kept_drewN (kept_drewN (kept_refl wr) d) nq))
            have HRd := hid (rdl_own (own_kept HO.out (kept_drewN (kept_drewN (kept_refl wr) d) nq)))
            clear c0 r0 HLr HOr
            generalize (wr.drewN d).drewN nq = w2 at *
            have K3 := kept_alloc (kept_refl w2) (.cells #[] 42)
            have A3 := at_new w2 #[] 42
            obtain ⟨w3, hw3⟩ : ∃ w3, w2.alloc (.cells #[] 42) = w3 := ⟨_, rfl⟩
            obtain ⟨G, hG⟩ : ∃ G, w2.heap.size = G := ⟨_, rfl⟩
            rw [hw3] at K3 A3
            rw [hG] at A3
            have HOz := hid (own_zero (B := G) A3 (Nat.le_refl _))
            have HG := hid hG
            have HGl : Hid (w2.heap.size ≤ G) := hid (by rw [hG]; exact Nat.le_refl _)
            have HK3 := hid K3
            have HB3 : Hid (G ≤ w3.heap.size) := hid (by rw [← hG]; exact K3.2)
            have HBG : Hid (B ≤ G) := hid (by rw [← hG, ← HBw.out]; exact HK2.out.2)
            have s1 := sl_hi g n p m hmn hp1 hp2
            have s2 := sl_lo g n p m hmn hp1 hp2
            have HSa := hid (src_take HRd.out.1 hmn)
            have HSc := hid (src_drop HRd.out.1 hmn hp1)
            generalize dropA g p m = dA at s2 HSc
            generalize n - m = n2 at s2 HSc
            generalize p - m = p2 at s2 HSc
            have HOl : Hid (O.length ≤ 1024) := hid (by rw [HnO.out]; omega)
            have Hla : Hid (([] : List R).length + (O.take m).length ≤ 4096) := hid (by have := HOl.out; simp; omega)
            have Hlb : Hid (([] ++ O.take m).length + [r].length ≤ 4096) := hid (by have := HOl.out; simp; omega)
            have Hlc : Hid (([] ++ O.take m ++ [r]).length + (O.drop m).length ≤ 4096) := hid (by have := HOl.out; simp; omega)
            clear K3 A3
            go_wp2_with (at_builtin; first
              | (refine wpList_app rfl _ _ rfl G _ _ [] (O.take m) rfl HOz.out rfl (src_kept HSa.out HK3.out) Hla.out HB3.out ?_; intro v4 w4 hown hgrow; obtain ⟨g4, n4, p4, rfl, H4⟩ := own_as hown; have HK4 := hid (kept_own HOz.out HK3.out HGl.out hgrow); obtain ⟨x0, x1, x2, x3, x4, x5, x6, x7⟩ := HC8.out w4 (kept_trans HK2.out HK4.out); have c4 := HC.out w4 (kept_trans HK2.out HK4.out); have K5 := kept_alloc HK4.out (.cells #[.string r.key, .int .u64 r.s.p, .int .u32 r.s.l, .int .u8 r.s.n, .int .u8 r.kind, .int .u32 r.flags, .int .u64 r.exp, .string r.body] 42); have A5 := at_new w4 #[.string r.key, .int .u64 r.s.p, .int .u32 r.s.l, .int .u8 r.s.n, .int .u8 r.kind, .int .u32 r.flags, .int .u64 r.exp, .string r.body] 42; have HO5 := hid (own_kept hown (kept_alloc (kept_refl w4) (.cells #[.string r.key, .int .u64 r.s.p, .int .u32 r.s.l, .int .u8 r.s.n, .int .u8 r.kind, .int .u32 r.flags, .int .u64 r.exp, .string r.body] 42))); obtain ⟨w5, hw5⟩ : ∃ w5, w4.alloc (.cells #[.string r.key, .int .u64 r.s.p, .int .u32 r.s.l, .int .u8 r.s.n, .int .u8 r.kind, .int .u32 r.flags, .int .u64 r.exp, .string r.body] 42) = w5 := ⟨_, rfl⟩; obtain ⟨G5, hG5⟩ : ∃ G5, w4.heap.size = G5 := ⟨_, rfl⟩; rw [hw5] at K5 A5 HO5; rw [hG5] at A5; have HS5 := hid (src_one A5); have HK5 := hid K5; have HB5 : Hid (G ≤ w5.heap.size) := hid (by rw [← HG.out]; exact K5.2); clear hown hgrow K5 A5)
              | (refine wpList_app rfl _ _ rfl G _ _ ([] ++ O.take m) [r] rfl HO5.out rfl HS5.out Hlb.out HB5.out ?_; intro v6 w6 hown hgrow; obtain ⟨g6, n6, p6, rfl, H6⟩ := own_as hown; have HK6 := hid (kept_own HO5.out HK5.out HGl.out hgrow); have HO6 := hid hown; have HB6 : Hid (G ≤ w6.heap.size) := hid (by rw [← HG.out]; exact HK6.out.2); clear hown hgrow)
              | (refine wpList_app rfl _ _ rfl G _ _ ([] ++ O.take m ++ [r]) (O.drop m) rfl HO6.out rfl (src_kept HSc.out HK6.out) Hlc.out HB6.out ?_; intro v7 w7 hown hgrow; obtain ⟨g7, n7, p7, rfl, H7⟩ := own_as hown; have HK7 := hid (kept_own HO6.out HK6.out HGl.out hgrow); have HO7 := hid hown; clear hown hgrow))
            have hn7 : n7 ≤ j + 1 := by
              have e1 := H7.out.1
              rw [HIns.out, (insK_perm r O).length_eq, List.length_cons, HnO.out] at e1
              omega
            have HO8 : Hid (Own w7 B (.slice (some ⟨g7, 0, none⟩) n7 p7) (insK r O)) := hid (by
              rw [← HIns.out]
              exact own_base HO7.out HBG.out)
            go_roundw
            case rel => exact ⟨j + 1, g7, n7, p7, insK r O, by omega, by go_num, rfl, hn7, HO8, hid (by rw [HEn.out, ← HE.out]), hid (kept_trans HK2.out HK7.out)⟩
            case measure => simp [intOf]; omega
      · have hkk : ¬ (rg r.key : Int) = k := by unfold inR at he; simpa using he
        have HEn := hid (in_no hr he)
        have heb : ((rg r.key : Int) != k) = true := by simpa using hkk
        generalize rg r.key = kk at hRg heb
        clear he hkk hr r1 r2 r3 r4 r5 r6 r7
        go_wp2_with fail
        refine (hRg _).mono ?_
        rintro e w1 ⟨rfl, rfl⟩
        clear hRg
        go_wp2_with fail
        go_roundw
        case rel => exact ⟨j + 1, g, n, p, O, by omega, by go_num, rfl, by omega, HO, hid (by rw [HEn.out]; exact HE.out), HKr⟩
        case measure => simp [intOf]; omega
    · go_wp2_with fail
      go_ret
      refine ⟨_, rfl, kept_trans HK.out HKr.out, ?_⟩
      have := (rdl_own HO.out).1
      rw [HE.out, show j = N by omega, ← HN.out, List.take_length] at this
      exact this
end Go.Proofs.YthgbdaladngpdaaGreat

/- The reference's digest of a range; its new store. -/
namespace Go.Proofs.YthgbdaladngpdaaGreat
open Go.ChangeShapes Go.WideShapes Go.ChangeAt Go.RowKit
open Go.Proofs.YthgbdaladngpdaaGreat.Whl (Tn tn_kept tn_refl tn_trans tn_set tn_alloc at_tn kept_tn It)
set_option linter.unusedVariables false
set_option linter.unusedSimpArgs false
set_option maxRecDepth 100000

def xorD : List R → Nat
  | [] => 0
  | r :: l => dgN r ^^^ xorD l
theorem xorD_snoc : ∀ (l : List R) (r : R), xorD (l ++ [r]) = xorD l ^^^ dgN r
  | [], r => by simp [xorD]
  | x :: l, r => by
    rw [List.cons_append, xorD, xorD_snoc l r, xorD, Nat.xor_assoc]
theorem xorD_lt : ∀ l, xorD l < 18446744073709551616
  | [] => by unfold xorD; omega
  | r :: l => xor_lt (dgN_lt r) (xorD_lt l)
theorem xorD_dig {k : Nat} : ∀ l : List R, (∀ r ∈ l, rg r.key = k) → xorD l = digL k l
  | [], _ => rfl
  | r :: l, h => by
    rw [xorD, digL, if_pos (h r List.mem_cons_self), xorD_dig l (fun x hx => h x (List.mem_cons_of_mem _ hx))]
theorem digL_in {k : Nat} : ∀ L : List R, digL k (L.filter (inR (k : Int))) = digL k L
  | [] => rfl
  | r :: l => by
    by_cases h : rg r.key = k
    · rw [List.filter_cons_of_pos (by unfold inR; simp [h]), digL, digL, if_pos h, if_pos h, digL_in l]
    · rw [List.filter_cons_of_neg (by unfold inR; simp; omega), digL, if_neg h, digL_in l]
theorem xor_range {k : Nat} {L : List R} (h : Keys L) : xorD (rangeL (k : Int) L) = digL k L := by
  have hx : ∀ r ∈ rangeL (k : Int) L, rg r.key = k := fun r hr => by
    have h1 := ((range_perm (k := (k : Int)) h).mem_iff).1 hr
    have h2 := (List.mem_filter.1 h1).2
    unfold inR at h2
    simp at h2
    omega
  rw [xorD_dig (k := k) _ hx, digL_perm k (range_perm h), digL_in]
set_option maxHeartbeats 1600000 in
theorem refdig_any {cs : Array Value} {c : Cf} {s : MS} (hl : s.L.length ≤ 1024) (hm : ∀ r ∈ s.L, mayR r = true) (hk : Keys s.L) (k : Nat) (w : World) (h : RS w cs c s) :
    Calls Tryz.prog 28 #[.agg cs, .int .i64 (k : Int)] w fun e w' => e = .returned (.int .u64 (digL k s.L : Int)) ∧ Kept w w' := by
  have K0 := kept_alloc (kept_refl w) (.cells cs 36)
  have HRs := hid (rs_kept h K0)
  have A0 := at_new w cs 36
  obtain ⟨w0, hw0⟩ : ∃ w0, w.alloc (.cells cs 36) = w0 := ⟨_, rfl⟩
  obtain ⟨Z, hZ⟩ : ∃ Z, w.heap.size = Z := ⟨_, rfl⟩
  rw [hw0] at A0 K0 HRs
  rw [hZ] at A0
  obtain ⟨v, hs, _⟩ := h
  have HLd := hid (load36 A0 hs)
  have HK := hid K0
  have HE : Hid (xorD (rangeL (k : Int) s.L) = digL k s.L) := hid (xor_range hk)
  have HTm : Hid (∀ r ∈ rangeL (k : Int) s.L, mayR r = true) := hid (fun r hr => hm r (List.mem_filter.1 (((range_perm (k := (k : Int)) hk).mem_iff).1 hr)).1)
  have HTl : Hid ((rangeL (k : Int) s.L).length ≤ 1024) := hid (by
    rw [(range_perm hk).length_eq]
    exact Nat.le_trans (List.length_filter_le _ _) hl)
  clear A0 K0
  go_enter Tryz.func28, Tryz.ntmps28
  go_wp2_with (refine wpList_load36 rfl _ rfl Z rfl cs HLd.out ?_)
  refine (refrangeL_any hl hm (k : Int) w0 HRs.out).mono ?_
  rintro e w1 ⟨v1, rfl, k1, h1⟩
  generalize rangeL (k : Int) s.L = T at *
  have HL := hid h1
  have HK1 := hid (kept_trans HK.out k1)
  obtain ⟨a, cap, rfl, _⟩ := h1
  obtain ⟨N, hN⟩ : ∃ N, T.length = N := ⟨_, rfl⟩
  rw [hN] at HL HTl ⊢
  have HN := hid hN
  have hn4 := HTl.out
  clear hN k1 hw0 HK HRs HLd
  go_wp2_with fail
  go_loopw [5, 7, 13] (fun t _ i wr => ∃ (j z : Nat), j ≤ N ∧ i = .int .i64 (j : Int) ∧ t = .int .u64 (z : Int) ∧ Hid (z = xorD (T.take j)) ∧ Hid (Kept w1 wr)) (fun _ _ i _ => N - (intOf i).toNat)
  case atStart => exact ⟨0, 0, Nat.zero_le _, rfl, rfl, hid (by simp [xorD]), hid (kept_refl w1)⟩
  case round =>
    obtain ⟨j, z, hj, rfl, rfl, HZ, HKr⟩ := hrel
    by_cases hlt : j < N
    · obtain ⟨q, rfl, r, hr, r0, r1, r2, r3, r4, r5, r6, r7⟩ := (rdr_at (rdr_kept HL.out HKr.out)).2 j hlt
      have hq := idxR q N cap j hlt (by omega)
      have hks : r.key.size ≤ maxLen := by have := (may_len (HTm.out r (List.mem_of_getElem? hr))).2; unfold maxLen; omega
      obtain ⟨v, hv⟩ : ∃ v, z ^^^ dgN r = v := ⟨_, rfl⟩
      have hxor : bits .xor .u64 (z : Int) (digR r) = (v : Int) := by rw [dgN_int]; exact xor_int (by rw [HZ.out]; exact xorD_lt _) (dgN_lt r) hv
      have HV : Hid (v = xorD (T.take (j + 1))) := hid (by rw [take_snoc hr, xorD_snoc, ← HZ.out, hv])
      have hD := refDigest_any r hks wr
      generalize digR r = dg at hxor hD
      clear hr hks hv
      go_wp2_with fail
      refine hD.mono ?_
      rintro e w2 ⟨rfl, k2⟩
      have HK2 := hid (kept_trans HKr.out k2)
      clear k2 hD r0 r1 r2 r3 r4 r5 r6 r7
      go_wp2_with fail
      go_roundw
      case rel => exact ⟨j + 1, v, by omega, by go_num, rfl, HV, HK2⟩
      case measure => simp [intOf]; omega
    · go_wp2_with fail
      go_ret
      refine ⟨?_, kept_trans HK1.out HKr.out⟩
      rw [HZ.out, show j = N by omega, ← HN.out, List.take_length, HE.out]
      rfl
/- A new one. -/
def svn (n b k : Int) : Array Value := (Value.slice none 0 0 :: ((List.replicate 64 [Value.int .u64 0, Value.int .u32 0, Value.int .u8 0]).flatten ++ [Value.int .i64 n, Value.int .i64 b, Value.int .u64 k, Value.int .i64 0])).toArray
theorem zero36 (w : World) : (zeroValue 36).run Tryz.prog w = .ok (.agg (svn 0 0 0)) w := by kernel_rfl
theorem build36 (n b k : Int) (w : World) : (Instr.build 36 #[(2, .int .i64 n), (3, .int .i64 b), (4, .int .u64 k)]).run Tryz.prog w = .ok (.agg (svn n b k)) w := by kernel_rfl
theorem build36z (w : World) : (Instr.build 36 #[]).run Tryz.prog w = .ok (.agg (svn 0 0 0)) w := by kernel_rfl
theorem rep3 (a b d : Value) : ∀ n k, k < n → ((List.replicate n [a, b, d]).flatten)[k * 3]? = some a ∧ ((List.replicate n [a, b, d]).flatten)[k * 3 + 1]? = some b ∧ ((List.replicate n [a, b, d]).flatten)[k * 3 + 2]? = some d
  | 0, k, h => absurd h (by omega)
  | n + 1, 0, _ => by simp [List.replicate_succ]
  | n + 1, k + 1, h => by
    obtain ⟨h1, h2, h3⟩ := rep3 a b d n k (by omega)
    have e : (k + 1) * 3 = k * 3 + 3 := by omega
    have e1 : (k + 1) * 3 + 1 = k * 3 + 1 + 3 := by omega
    have e2 : (k + 1) * 3 + 2 = k * 3 + 2 + 3 := by omega
    rw [e1, e2, e, List.replicate_succ, List.flatten_cons]
    exact ⟨by simpa using h1, by simpa using h2, by simpa using h3⟩
theorem sv_new (c : Cf) : Sv (svn (c.n : Int) (c.B : Int) (c.K : Int)) (.slice none 0 0) (fun _ => zero) c 0 := by
  have hl : ((List.replicate 64 [Value.int .u64 0, Value.int .u32 0, Value.int .u8 0]).flatten).length = 192 := by simp
  refine ⟨?_, rfl, fun k hk => ?_, ?_, ?_, ?_, ?_, ?_⟩
  · unfold svn; simp
  · obtain ⟨h1, h2, h3⟩ := rep3 (.int .u64 0) (.int .u32 0) (.int .u8 0) 64 k hk
    unfold svn
    simp only [List.getElem?_toArray]
    rw [show 1 + k * 3 = k * 3 + 1 by omega, show k * 3 + 1 + 1 = (k * 3 + 1) + 1 by omega, show k * 3 + 1 + 2 = (k * 3 + 2) + 1 by omega]
    rw [List.getElem?_cons_succ, List.getElem?_cons_succ, List.getElem?_cons_succ, List.getElem?_append_left (by omega), List.getElem?_append_left (by omega), List.getElem?_append_left (by omega)]
    exact ⟨h1, h2, h3⟩
  · rfl
  · rfl
  · rfl
  · rfl
  · rw [Array.all_eq_true_iff_forall_mem]
    intro x hx
    unfold svn at hx
    simp only [List.mem_toArray, List.mem_cons, List.mem_append, List.mem_flatten, List.mem_replicate, List.not_mem_nil, or_false] at hx
    rcases hx with rfl | ⟨l, ⟨_, rfl⟩, hx⟩ | rfl | rfl | rfl | rfl
    · rfl
    · simp only [List.mem_cons, List.not_mem_nil, or_false] at hx
      rcases hx with rfl | rfl | rfl <;> rfl
    · rfl
    · rfl
    · rfl
    · rfl
theorem rs_new (w : World) (c : Cf) : RS w (svn (c.n : Int) (c.B : Int) (c.K : Int)) c MS0 :=
  ⟨_, sv_new c, ⟨none, 0, rfl, fun h => absurd h (by simp [MS0])⟩, none, 0, rfl, by simp [MS0], by unfold maxLen; omega⟩
end Go.Proofs.YthgbdaladngpdaaGreat

/- The reference's new store. -/
namespace Go.Proofs.YthgbdaladngpdaaGreat
open Go.ChangeShapes Go.WideShapes Go.ChangeAt Go.RowKit
open Go.Proofs.YthgbdaladngpdaaGreat.Whl (Tn tn_kept tn_refl tn_trans tn_set tn_alloc at_tn kept_tn It)
set_option linter.unusedVariables false
set_option linter.unusedSimpArgs false
set_option maxRecDepth 100000

theorem svn_size (n b k : Int) : (svn n b k).size = 197 := by unfold svn; simp
def c000 : Cf := ⟨0, 0, 0⟩
theorem sv_zero : Sv (svn 0 0 0) (.slice none 0 0) (fun _ => zero) c000 0 := sv_new c000
set_option maxHeartbeats 400000 in
theorem refnew_any (c : Cf) (hc : c.may) (w : World) : Calls Tryz.prog 10 #[.int .i64 (c.n : Int), .int .i64 (c.B : Int), .int .i64 (c.K : Int)] w fun e w' => e = .returned (.tuple #[.agg (svn (c.n : Int) (c.B : Int) (c.K : Int)), .int .i64 0]) ∧ Kept w w' := by
  obtain ⟨n1, n2, b1, b2, k1, k2⟩ := hc
  have d1 : decide ((c.n : Int) < 1) = false := decide_eq_false (by omega)
  have d2 : decide ((1024 : Int) < (c.n : Int)) = false := decide_eq_false (by omega)
  have d3 : decide ((c.B : Int) < 1) = false := decide_eq_false (by omega)
  have d4 : decide ((1048576 : Int) < (c.B : Int)) = false := decide_eq_false (by omega)
  have d5 : decide ((c.K : Int) < 1) = false := decide_eq_false (by omega)
  have d6 : decide ((1000 : Int) < (c.K : Int)) = false := decide_eq_false (by omega)
  have hz := zero36
  have hwk : IntKind.u64.wrap (c.K : Int) = (c.K : Int) := by rw [IntKind.wrap_u64]; omega
  have hb := build36
  have hs := sv_new c
  obtain ⟨cs, hcs⟩ : ∃ cs, svn (c.n : Int) (c.B : Int) (c.K : Int) = cs := ⟨_, rfl⟩
  have hb2 : ∀ w : World, (Instr.build 36 #[(2, .int .i64 (c.n : Int)), (3, .int .i64 (c.B : Int)), (4, .int .u64 (c.K : Int))]).run Tryz.prog w = .ok (.agg cs) w := fun w => by rw [← hcs]; exact build36 _ _ _ w
  rw [hcs] at hs
  have A0 := at_new w (svn 0 0 0) 36
  have K0 := kept_alloc (kept_refl w) (.cells (svn 0 0 0) 36)
  have hsz := svn_size 0 0 0
  generalize svn 0 0 0 = zs at *
  obtain ⟨w0, hw0⟩ : ∃ w0, w.alloc (.cells zs 36) = w0 := ⟨_, rfl⟩
  obtain ⟨Z, hZ⟩ : ∃ Z, w.heap.size = Z := ⟨_, rfl⟩
  rw [hw0] at A0 K0
  rw [hZ] at A0
  have HSt := hid (store36 A0 hsz hs)
  have HLd := hid (load36 (at_setRow (cs := cs) A0) hs)
  have HK := hid (kept_setRow K0 (Nat.le_of_eq hZ) cs)
  generalize w0.setRow Z cs = w1 at *
  clear A0 K0 hs hb hsz n1 n2 b1 b2 k1 k2
  rw [hcs]
  go_enter Tryz.func10, Tryz.ntmps10
  go_wp2_with (first | (refine wpList_store36 rfl _ _ rfl Z rfl cs rfl w1 HSt.out ?_) | (refine wpList_build36 rfl (.tmp 31) (.tmp 32) (.tmp 34) rfl (.int .i64 (c.n : Int)) (.int .i64 (c.B : Int)) (.int .u64 (c.K : Int)) rfl rfl rfl cs (hb2 _) ?_))
  exact bodyPost_ret (resN Tryz.results10 _ rfl rfl HLd.out) rfl ⟨rfl, HK.out⟩
set_option maxHeartbeats 1600000 in
theorem refnew_bad (n b k : Int) (h : ¬ confMay n b k) (w : World) : Calls Tryz.prog 10 #[.int .i64 n, .int .i64 b, .int .i64 k] w fun e w' => e = .returned (.tuple #[.agg (svn 0 0 0), .int .i64 1]) ∧ Kept w w' := by
  have hz := zero36
  have HBd := hid build36z
  have hs := sv_zero
  have A0 := at_new w (svn 0 0 0) 36
  have K0 := kept_alloc (kept_refl w) (.cells (svn 0 0 0) 36)
  have hsz := svn_size 0 0 0
  generalize svn 0 0 0 = zs at *
  obtain ⟨w0, hw0⟩ : ∃ w0, w.alloc (.cells zs 36) = w0 := ⟨_, rfl⟩
  obtain ⟨Z, hZ⟩ : ∃ Z, w.heap.size = Z := ⟨_, rfl⟩
  rw [hw0] at A0 K0
  rw [hZ] at A0
  have HSt := hid (store36 A0 hsz hs)
  have HLd := hid (load36 (at_setRow (cs := zs) A0) hs)
  have HK := hid (kept_setRow K0 (Nat.le_of_eq hZ) zs)
  generalize w0.setRow Z zs = w1 at *
  clear A0 K0 hs hsz
  by_cases g0 : n < 1
  · have d0 : decide (n < 1) = true := decide_eq_true g0
    clear g0
    clear h
    go_enter Tryz.func10, Tryz.ntmps10
    go_wp2_with (first | (refine wpList_store36 rfl _ _ rfl Z rfl zs rfl w1 HSt.out ?_) | (refine wpList_build36z rfl rfl zs (HBd.out _) ?_))
    exact bodyPost_ret (resN Tryz.results10 _ rfl rfl HLd.out) rfl ⟨rfl, HK.out⟩
  · have d0 : decide (n < 1) = false := decide_eq_false g0
    by_cases g1 : (1024 : Int) < n
    · have d1 : decide ((1024 : Int) < n) = true := decide_eq_true g1
      clear g0 g1
      clear h
      go_enter Tryz.func10, Tryz.ntmps10
      go_wp2_with (first | (refine wpList_store36 rfl _ _ rfl Z rfl zs rfl w1 HSt.out ?_) | (refine wpList_build36z rfl rfl zs (HBd.out _) ?_))
      exact bodyPost_ret (resN Tryz.results10 _ rfl rfl HLd.out) rfl ⟨rfl, HK.out⟩
    · have d1 : decide ((1024 : Int) < n) = false := decide_eq_false g1
      by_cases g2 : b < 1
      · have d2 : decide (b < 1) = true := decide_eq_true g2
        clear g0 g1 g2
        clear h
        go_enter Tryz.func10, Tryz.ntmps10
        go_wp2_with (first | (refine wpList_store36 rfl _ _ rfl Z rfl zs rfl w1 HSt.out ?_) | (refine wpList_build36z rfl rfl zs (HBd.out _) ?_))
        exact bodyPost_ret (resN Tryz.results10 _ rfl rfl HLd.out) rfl ⟨rfl, HK.out⟩
      · have d2 : decide (b < 1) = false := decide_eq_false g2
        by_cases g3 : (1048576 : Int) < b
        · have d3 : decide ((1048576 : Int) < b) = true := decide_eq_true g3
          clear g0 g1 g2 g3
          clear h
          go_enter Tryz.func10, Tryz.ntmps10
          go_wp2_with (first | (refine wpList_store36 rfl _ _ rfl Z rfl zs rfl w1 HSt.out ?_) | (refine wpList_build36z rfl rfl zs (HBd.out _) ?_))
          exact bodyPost_ret (resN Tryz.results10 _ rfl rfl HLd.out) rfl ⟨rfl, HK.out⟩
        · have d3 : decide ((1048576 : Int) < b) = false := decide_eq_false g3
          by_cases g4 : k < 1
          · have d4 : decide (k < 1) = true := decide_eq_true g4
            clear g0 g1 g2 g3 g4
            clear h
            go_enter Tryz.func10, Tryz.ntmps10
            go_wp2_with (first | (refine wpList_store36 rfl _ _ rfl Z rfl zs rfl w1 HSt.out ?_) | (refine wpList_build36z rfl rfl zs (HBd.out _) ?_))
            exact bodyPost_ret (resN Tryz.results10 _ rfl rfl HLd.out) rfl ⟨rfl, HK.out⟩
          · have d4 : decide (k < 1) = false := decide_eq_false g4
            by_cases g5 : (1000 : Int) < k
            · have d5 : decide ((1000 : Int) < k) = true := decide_eq_true g5
              clear g0 g1 g2 g3 g4 g5
              clear h
              go_enter Tryz.func10, Tryz.ntmps10
              go_wp2_with (first | (refine wpList_store36 rfl _ _ rfl Z rfl zs rfl w1 HSt.out ?_) | (refine wpList_build36z rfl rfl zs (HBd.out _) ?_))
              exact bodyPost_ret (resN Tryz.results10 _ rfl rfl HLd.out) rfl ⟨rfl, HK.out⟩
            · have d5 : decide ((1000 : Int) < k) = false := decide_eq_false g5
              exact absurd ⟨⟨by omega, by omega⟩, ⟨by omega, by omega⟩, by omega, by omega⟩ h
end Go.Proofs.YthgbdaladngpdaaGreat
