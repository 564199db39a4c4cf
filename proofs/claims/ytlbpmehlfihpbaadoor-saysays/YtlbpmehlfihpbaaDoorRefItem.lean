/- The contracts of the reference's functions that say an item, and all. They turn nothing that was there. -/
import Derived.Test.YtlbpmehlfihpbaaDoorDec
import Derived.Test.YtlbpmehlfihpbaaDoorItems
import Derived.Test.YtlbpmehlfihpbaaDoorLawEach
namespace Go.Proofs.YtlbpmehlfihpbaaDoor
open Go.ChangeShapes Go.WideShapes Go.ChangeAt Go.RowKit
set_option linter.unusedVariables false
set_option linter.unusedSimpArgs false

theorem ba_append (a b : ByteArray) : (a ++ b).data.toList = a.data.toList ++ b.data.toList := by simp
set_option maxHeartbeats 3200000 in
set_option maxRecDepth 100000 in
theorem Item_any (r : R) (hf : r.flags < 4294967296) (hk : r.key.size ≤ 3000) (hb : r.body.size ≤ 3000) (w : World) :
    Calls Tryd.prog 22 #[.agg #[.string r.key, .int .u64 r.s.p, .int .u32 r.s.l, .int .u8 r.s.n, .int .u8 r.kind, .int .u32 r.flags, .int .u64 r.exp, .string r.body]] w fun e w' => e = .returned (.string ⟨(itemR r).toArray⟩) ∧ Kept w w' := by
  obtain ⟨d1, h1⟩ : ∃ d : ByteArray, d = ⟨(dec r.flags).toArray⟩ := ⟨_, rfl⟩
  obtain ⟨d2, h2⟩ : ∃ d : ByteArray, d = ⟨(dec r.body.size).toArray⟩ := ⟨_, rfl⟩
  have hD1 := fun u => Decimal_any r.flags (by omega) u
  have hD2 := fun u => Decimal_any r.body.size (by omega) u
  rw [← h1] at hD1
  rw [← h2] at hD2
  have s1 : d1.size ≤ 10 := by rw [h1, mk_size]; exact dec_len 10 _ (by omega) (by omega)
  have s2 : d2.size ≤ 10 := by rw [h2, mk_size]; exact dec_len 10 _ (by omega) (by omega)
  have HE : Hid ((⟨#[86, 65, 76, 85, 69, 32]⟩ : ByteArray) ++ r.key ++ ⟨#[32]⟩ ++ d1 ++ ⟨#[32]⟩ ++ d2 ++ ⟨#[13, 10]⟩ ++ r.body ++ ⟨#[13, 10]⟩ = ⟨(itemR r).toArray⟩) := by
    apply bytes_ext
    rw [mk_list]
    simp only [ba_append, h1, h2, mk_list]
    unfold itemR itemL firstL first3
    simp [size_list]
  have hw1 : IntKind.u64.wrap (r.flags : Int) = (r.flags : Int) := by rw [IntKind.wrap_u64]; omega
  have hw2 : IntKind.u64.wrap (r.body.size : Int) = (r.body.size : Int) := by rw [IntKind.wrap_u64]; omega
  have hA := at_new w #[.string r.key, .int .u64 r.s.p, .int .u32 r.s.l, .int .u8 r.s.n, .int .u8 r.kind, .int .u32 r.flags, .int .u64 r.exp, .string r.body] 45
  have k0 := kept_alloc (kept_refl w) (.cells #[.string r.key, .int .u64 r.s.p, .int .u32 r.s.l, .int .u8 r.s.n, .int .u8 r.kind, .int .u32 r.flags, .int .u64 r.exp, .string r.body] 45)
  have z1 : (⟨#[86, 65, 76, 85, 69, 32]⟩ : ByteArray).size = 6 := rfl
  have z2 : (⟨#[32]⟩ : ByteArray).size = 1 := rfl
  have z3 : (⟨#[13, 10]⟩ : ByteArray).size = 2 := rfl
  clear h1 h2
  go_enter Tryd.func22, Tryd.ntmps22
  go_wp2_with fail
  generalize w.alloc (.cells #[.string r.key, .int .u64 r.s.p, .int .u32 r.s.l, .int .u8 r.s.n, .int .u8 r.kind, .int .u32 r.flags, .int .u64 r.exp, .string r.body] 45) = wa at *
  generalize w.heap.size = X at *
  refine wp_region_noPanic ?_
  refine wp_region_held_drew (S := (fun w' => w'.cell? ⟨X, 0, none⟩ = some (.string r.key) ∧ w'.cell? ⟨X, 1, none⟩ = some (.int .u64 r.s.p) ∧ w'.cell? ⟨X, 2, none⟩ = some (.int .u32 r.s.l) ∧ w'.cell? ⟨X, 3, none⟩ = some (.int .u8 r.s.n) ∧ w'.cell? ⟨X, 4, none⟩ = some (.int .u8 r.kind) ∧ w'.cell? ⟨X, 5, none⟩ = some (.int .u32 r.flags) ∧ w'.cell? ⟨X, 6, none⟩ = some (.int .u64 r.exp) ∧ w'.cell? ⟨X, 7, none⟩ = some (.string r.body))) (by kernel_rfl) (cells8 hA) (fun hHeld => ?_)
  refine wpAnyH_take (i := 0) (v := .pointer (some ⟨X, 0, none⟩)) rfl (by kernel_rfl) (by kernel_rfl) (by kernel_rfl) (fun _ _ _ h => h) (Or.inl ⟨by rfl, fun w hSw => by (try dsimp only at hSw); go_simp⟩) (by assumption) ?_
  try simp only [List.getElem_toArray, List.getElem_cons_zero, List.getElem_cons_succ, Act.put, List.setIfInBounds_toArray, List.set_cons_zero, List.set_cons_succ]
  refine wpAnyH_take (i := 1) (v := .string r.key) rfl (by kernel_rfl) (by kernel_rfl) (by kernel_rfl) (fun _ _ _ h => h) (Or.inl ⟨by rfl, fun w hSw => by (try dsimp only at hSw); go_simp⟩) (by assumption) ?_
  try simp only [List.getElem_toArray, List.getElem_cons_zero, List.getElem_cons_succ, Act.put, List.setIfInBounds_toArray, List.set_cons_zero, List.set_cons_succ]
  refine wpAnyH_take (i := 2) (v := .string ((⟨#[86, 65, 76, 85, 69, 32]⟩ : ByteArray) ++ r.key)) rfl (by kernel_rfl) (by kernel_rfl) (by kernel_rfl) (fun _ _ _ h => h) (Or.inl ⟨by rfl, fun w hSw => by (try dsimp only at hSw); go_simp; omega⟩) (by assumption) ?_
  try simp only [List.getElem_toArray, List.getElem_cons_zero, List.getElem_cons_succ, Act.put, List.setIfInBounds_toArray, List.set_cons_zero, List.set_cons_succ]
  refine wpAnyH_take (i := 3) (v := .string ((⟨#[86, 65, 76, 85, 69, 32]⟩ : ByteArray) ++ r.key ++ (⟨#[32]⟩ : ByteArray))) rfl (by kernel_rfl) (by kernel_rfl) (by kernel_rfl) (fun _ _ _ h => h) (Or.inl ⟨by rfl, fun w hSw => by (try dsimp only at hSw); go_simp; omega⟩) (by assumption) ?_
  try simp only [List.getElem_toArray, List.getElem_cons_zero, List.getElem_cons_succ, Act.put, List.setIfInBounds_toArray, List.set_cons_zero, List.set_cons_succ]
  refine wpAnyH_take (i := 4) (v := .pointer (some ⟨X, 5, none⟩)) rfl (by kernel_rfl) (by kernel_rfl) (by kernel_rfl) (fun _ _ _ h => h) (Or.inl ⟨by rfl, fun w hSw => by (try dsimp only at hSw); go_simp⟩) (by assumption) ?_
  try simp only [List.getElem_toArray, List.getElem_cons_zero, List.getElem_cons_succ, Act.put, List.setIfInBounds_toArray, List.set_cons_zero, List.set_cons_succ]
  refine wpAnyH_take (i := 5) (v := .int .u32 (r.flags : Int)) rfl (by kernel_rfl) (by kernel_rfl) (by kernel_rfl) (fun _ _ _ h => h) (Or.inl ⟨by rfl, fun w hSw => by (try dsimp only at hSw); go_simp⟩) (by assumption) ?_
  try simp only [List.getElem_toArray, List.getElem_cons_zero, List.getElem_cons_succ, Act.put, List.setIfInBounds_toArray, List.set_cons_zero, List.set_cons_succ]
  refine wpAnyH_take (i := 6) (v := .int .u64 (r.flags : Int)) rfl (by kernel_rfl) (by kernel_rfl) (by kernel_rfl) (fun _ _ _ h => h) (Or.inl ⟨by rfl, fun w hSw => by (try dsimp only at hSw); go_simp; try (rw [hw1])⟩) (by assumption) ?_
  try simp only [List.getElem_toArray, List.getElem_cons_zero, List.getElem_cons_succ, Act.put, List.setIfInBounds_toArray, List.set_cons_zero, List.set_cons_succ]
  refine wpAnyH_take (i := 10) (v := .pointer (some ⟨X, 7, none⟩)) rfl (by kernel_rfl) (by kernel_rfl) (by kernel_rfl) (fun _ _ _ h => h) (Or.inl ⟨by rfl, fun w hSw => by (try dsimp only at hSw); go_simp⟩) (by assumption) ?_
  try simp only [List.getElem_toArray, List.getElem_cons_zero, List.getElem_cons_succ, Act.put, List.setIfInBounds_toArray, List.set_cons_zero, List.set_cons_succ]
  refine wpAnyH_take (i := 11) (v := .string r.body) rfl (by kernel_rfl) (by kernel_rfl) (by kernel_rfl) (fun _ _ _ h => h) (Or.inl ⟨by rfl, fun w hSw => by (try dsimp only at hSw); go_simp⟩) (by assumption) ?_
  try simp only [List.getElem_toArray, List.getElem_cons_zero, List.getElem_cons_succ, Act.put, List.setIfInBounds_toArray, List.set_cons_zero, List.set_cons_succ]
  refine wpAnyH_take (i := 12) (v := .int .i64 (r.body.size : Int)) rfl (by kernel_rfl) (by kernel_rfl) (by kernel_rfl) (fun _ _ _ h => h) (Or.inl ⟨by rfl, fun w hSw => by (try dsimp only at hSw); go_simp⟩) (by assumption) ?_
  try simp only [List.getElem_toArray, List.getElem_cons_zero, List.getElem_cons_succ, Act.put, List.setIfInBounds_toArray, List.set_cons_zero, List.set_cons_succ]
  refine wpAnyH_take (i := 13) (v := .int .u64 (r.body.size : Int)) rfl (by kernel_rfl) (by kernel_rfl) (by kernel_rfl) (fun _ _ _ h => h) (Or.inl ⟨by rfl, fun w hSw => by (try dsimp only at hSw); go_simp; try (rw [hw2])⟩) (by assumption) ?_
  try simp only [List.getElem_toArray, List.getElem_cons_zero, List.getElem_cons_succ, Act.put, List.setIfInBounds_toArray, List.set_cons_zero, List.set_cons_succ]
  refine wpAnyH_take (i := 17) (v := .pointer (some ⟨X, 7, none⟩)) rfl (by kernel_rfl) (by kernel_rfl) (by kernel_rfl) (fun _ _ _ h => h) (Or.inl ⟨by rfl, fun w hSw => by (try dsimp only at hSw); go_simp⟩) (by assumption) ?_
  try simp only [List.getElem_toArray, List.getElem_cons_zero, List.getElem_cons_succ, Act.put, List.setIfInBounds_toArray, List.set_cons_zero, List.set_cons_succ]
  refine wpAnyH_take (i := 18) (v := .string r.body) rfl (by kernel_rfl) (by kernel_rfl) (by kernel_rfl) (fun _ _ _ h => h) (Or.inl ⟨by rfl, fun w hSw => by (try dsimp only at hSw); go_simp⟩) (by assumption) ?_
  try simp only [List.getElem_toArray, List.getElem_cons_zero, List.getElem_cons_succ, Act.put, List.setIfInBounds_toArray, List.set_cons_zero, List.set_cons_succ]
  refine wpAnyH_ready (rs := [7]) (by kernel_rfl) (by simp) ?_
  refine AllReadyH.cons (i := 7) rfl (fun K hK => ?_) AllReadyH.nil
  go_simp
  refine (hD1 _).mono ?_
  rintro e w3 ⟨rfl, h3⟩
  replace hA := at_kept hA h3
  replace k0 := kept_trans k0 h3
  clear h3
  clear hHeld
  show K _ _
  refine hK.out _ _ (cells8 hA) (fun hHeld => ?_)
  clear hK K
  try simp only [List.getElem_toArray, List.getElem_cons_zero, List.getElem_cons_succ, Act.put, List.setIfInBounds_toArray, List.set_cons_zero, List.set_cons_succ]
  refine wpAnyH_take (i := 8) (v := .string ((⟨#[86, 65, 76, 85, 69, 32]⟩ : ByteArray) ++ r.key ++ (⟨#[32]⟩ : ByteArray) ++ d1)) rfl (by kernel_rfl) (by kernel_rfl) (by kernel_rfl) (fun _ _ _ h => h) (Or.inl ⟨by rfl, fun w hSw => by (try dsimp only at hSw); go_simp; omega⟩) (by assumption) ?_
  try simp only [List.getElem_toArray, List.getElem_cons_zero, List.getElem_cons_succ, Act.put, List.setIfInBounds_toArray, List.set_cons_zero, List.set_cons_succ]
  refine wpAnyH_take (i := 9) (v := .string ((⟨#[86, 65, 76, 85, 69, 32]⟩ : ByteArray) ++ r.key ++ (⟨#[32]⟩ : ByteArray) ++ d1 ++ (⟨#[32]⟩ : ByteArray))) rfl (by kernel_rfl) (by kernel_rfl) (by kernel_rfl) (fun _ _ _ h => h) (Or.inl ⟨by rfl, fun w hSw => by (try dsimp only at hSw); go_simp; omega⟩) (by assumption) ?_
  try simp only [List.getElem_toArray, List.getElem_cons_zero, List.getElem_cons_succ, Act.put, List.setIfInBounds_toArray, List.set_cons_zero, List.set_cons_succ]
  refine wpAnyH_ready (rs := [14]) (by kernel_rfl) (by simp) ?_
  refine AllReadyH.cons (i := 14) rfl (fun K hK => ?_) AllReadyH.nil
  go_simp
  refine (hD2 _).mono ?_
  rintro e w3 ⟨rfl, h3⟩
  replace hA := at_kept hA h3
  replace k0 := kept_trans k0 h3
  clear h3
  clear hHeld
  show K _ _
  refine hK.out _ _ (cells8 hA) (fun hHeld => ?_)
  clear hK K
  try simp only [List.getElem_toArray, List.getElem_cons_zero, List.getElem_cons_succ, Act.put, List.setIfInBounds_toArray, List.set_cons_zero, List.set_cons_succ]
  refine wpAnyH_take (i := 15) (v := .string ((⟨#[86, 65, 76, 85, 69, 32]⟩ : ByteArray) ++ r.key ++ (⟨#[32]⟩ : ByteArray) ++ d1 ++ (⟨#[32]⟩ : ByteArray) ++ d2)) rfl (by kernel_rfl) (by kernel_rfl) (by kernel_rfl) (fun _ _ _ h => h) (Or.inl ⟨by rfl, fun w hSw => by (try dsimp only at hSw); go_simp; omega⟩) (by assumption) ?_
  try simp only [List.getElem_toArray, List.getElem_cons_zero, List.getElem_cons_succ, Act.put, List.setIfInBounds_toArray, List.set_cons_zero, List.set_cons_succ]
  refine wpAnyH_take (i := 16) (v := .string ((⟨#[86, 65, 76, 85, 69, 32]⟩ : ByteArray) ++ r.key ++ (⟨#[32]⟩ : ByteArray) ++ d1 ++ (⟨#[32]⟩ : ByteArray) ++ d2 ++ (⟨#[13, 10]⟩ : ByteArray))) rfl (by kernel_rfl) (by kernel_rfl) (by kernel_rfl) (fun _ _ _ h => h) (Or.inl ⟨by rfl, fun w hSw => by (try dsimp only at hSw); go_simp; omega⟩) (by assumption) ?_
  try simp only [List.getElem_toArray, List.getElem_cons_zero, List.getElem_cons_succ, Act.put, List.setIfInBounds_toArray, List.set_cons_zero, List.set_cons_succ]
  refine wpAnyH_take (i := 19) (v := .string ((⟨#[86, 65, 76, 85, 69, 32]⟩ : ByteArray) ++ r.key ++ (⟨#[32]⟩ : ByteArray) ++ d1 ++ (⟨#[32]⟩ : ByteArray) ++ d2 ++ (⟨#[13, 10]⟩ : ByteArray) ++ r.body)) rfl (by kernel_rfl) (by kernel_rfl) (by kernel_rfl) (fun _ _ _ h => h) (Or.inl ⟨by rfl, fun w hSw => by (try dsimp only at hSw); go_simp; omega⟩) (by assumption) ?_
  try simp only [List.getElem_toArray, List.getElem_cons_zero, List.getElem_cons_succ, Act.put, List.setIfInBounds_toArray, List.set_cons_zero, List.set_cons_succ]
  refine wpAnyH_take (i := 20) (v := .string ((⟨#[86, 65, 76, 85, 69, 32]⟩ : ByteArray) ++ r.key ++ (⟨#[32]⟩ : ByteArray) ++ d1 ++ (⟨#[32]⟩ : ByteArray) ++ d2 ++ (⟨#[13, 10]⟩ : ByteArray) ++ r.body ++ (⟨#[13, 10]⟩ : ByteArray))) rfl (by kernel_rfl) (by kernel_rfl) (by kernel_rfl) (fun _ _ _ h => h) (Or.inl ⟨by rfl, fun w hSw => by (try dsimp only at hSw); go_simp; omega⟩) (by assumption) ?_
  try simp only [List.getElem_toArray, List.getElem_cons_zero, List.getElem_cons_succ, Act.put, List.setIfInBounds_toArray, List.set_cons_zero, List.set_cons_succ]
  refine wpAnyH_take (i := 21) (v := .string ((⟨#[86, 65, 76, 85, 69, 32]⟩ : ByteArray) ++ r.key ++ (⟨#[32]⟩ : ByteArray) ++ d1 ++ (⟨#[32]⟩ : ByteArray) ++ d2 ++ (⟨#[13, 10]⟩ : ByteArray) ++ r.body ++ (⟨#[13, 10]⟩ : ByteArray))) rfl (by kernel_rfl) (by kernel_rfl) (by kernel_rfl) (fun _ _ _ h => h) (Or.inl ⟨by rfl, fun w hSw => by (try dsimp only at hSw); go_simp⟩) (by assumption) ?_
  try simp only [List.getElem_toArray, List.getElem_cons_zero, List.getElem_cons_succ, Act.put, List.setIfInBounds_toArray, List.set_cons_zero, List.set_cons_succ]
  refine wpAnyH_done (by kernel_rfl) ?_ _
  refine NoPanic.normal ?_
  go_wp2
  go_ret
  exact ⟨by rw [HE.out]; rfl, k0⟩
set_option maxHeartbeats 1600000 in
set_option maxRecDepth 100000 in
theorem refItems_any (oa : Option Addr) (len cap b o : Nat) (L : List R) (w : World) (hR : Row w oa len cap b o L) (hg : greatL L = false) :
    Calls Tryd.prog 11 #[.slice oa len cap] w fun e w' => e = .returned (.string ⟨(itemsR L).toArray⟩) ∧ Kept w w' := by
  obtain ⟨hn, hs⟩ := not_great hg
  have HF := hid (items_size (row_ok hR) hs)
  have HS := hid hs
  obtain ⟨h0, h1, h2, -, h4, h5⟩ := hR
  have H0 : Hid (L.length = len) := h0
  have HN : Hid (L.length ≤ 100) := hn
  have H4 : Hid (0 < len → oa = some ⟨b, o, none⟩ ∧ b < w.heap.size) := h4
  have H5 : Hid (∀ i (h : i < L.length), L[i].ok ∧ Lies w b (o + i * 8) L[i]) := h5
  have hm : len ≤ 9223372036854775807 := by unfold maxLen at h2; omega
  have K0 := hid (kept_refl w)
  clear h0 h2 h4 h5 hg hs hn
  go_enter Tryd.func11, Tryd.ntmps11
  go_wp2
  go_loopw [3, 7] (fun v3 j wr => ∃ k : Nat, k ≤ len ∧ j = .int .i64 k ∧ v3 = .string ⟨((L.take k).flatMap itemR).toArray⟩ ∧ Hid (Kept w wr)) (fun _ j _ => len - (intOf j).toNat)
  case atStart => exact ⟨0, Nat.zero_le _, rfl, by simp, K0⟩
  case round =>
    obtain ⟨k, hk, rfl, rfl, HK⟩ := hrel
    by_cases hlt : k < len
    · have hkL : k < L.length := by rw [H0.out]; exact hlt
      obtain ⟨hoa, hb⟩ := H4.out (by omega)
      obtain ⟨hok, hcell⟩ := H5.out k hkL
      have hc := lies_kept hcell hb HK.out
      have hsk := HS.out L[k] (List.getElem_mem hkL)
      have hI := fun u => Item_any L[k] hok.2.1 hsk.1 hsk.2 u
      have hsz := item_size hok.2.1 hsk.1 hsk.2
      have hle := flat_le itemR L k
      have hfl : ((L.take k).flatMap itemR).length ≤ 610000 := by have := HF.out; have := HN.out; omega
      have HT : Hid ((⟨((L.take k).flatMap itemR).toArray⟩ : ByteArray) ++ ⟨(itemR L[k]).toArray⟩ = ⟨((L.take (k + 1)).flatMap itemR).toArray⟩) := by
        apply bytes_ext
        rw [ba_append, mk_list, mk_list, mk_list, flat_succ itemR L k hkL]
      have q1 : (⟨((L.take k).flatMap itemR).toArray⟩ : ByteArray).size ≤ 610000 := by rw [mk_size]; exact hfl
      have q2 : (⟨(itemR L[k]).toArray⟩ : ByteArray).size ≤ 6100 := by rw [mk_size]; exact hsz
      clear hok hcell hsk hsz hfl hle hb
      generalize (⟨(itemR L[k]).toArray⟩ : ByteArray) = I at *
      generalize (⟨((L.take k).flatMap itemR).toArray⟩ : ByteArray) = T at *
      generalize L[k] = r at *
      obtain ⟨c0, c1, c2, c3, c4, c5, c6, c7⟩ := hc
      subst hoa
      go_wp2_with fail
      refine (hI wr).mono ?_
      rintro e w2 ⟨rfl, hk2⟩
      have HK2 := hid (kept_trans HK.out hk2)
      clear hI hk2 c0 c1 c2 c3 c4 c5 c6 c7
      go_wp2
      go_roundw
      case rel => exact ⟨k + 1, by omega, by go_num, by rw [HT.out], HK2⟩
      case measure => simp [intOf]; omega
    · have hk2 : L.take k = L := List.take_of_length_le (by rw [H0.out]; omega)
      rw [hk2]
      have hfl : (L.flatMap itemR).length ≤ 610000 := by have := HF.out; have := HN.out; omega
      have HT : Hid ((⟨(L.flatMap itemR).toArray⟩ : ByteArray) ++ ⟨#[69, 78, 68, 13, 10]⟩ = ⟨(itemsR L).toArray⟩) := by
        apply bytes_ext
        rw [ba_append, mk_list, mk_list]
        rfl
      have q1 : (⟨(L.flatMap itemR).toArray⟩ : ByteArray).size ≤ 610000 := by rw [mk_size]; exact hfl
      have q2 : (⟨#[69, 78, 68, 13, 10]⟩ : ByteArray).size = 5 := rfl
      clear hk2 hfl
      generalize (⟨(L.flatMap itemR).toArray⟩ : ByteArray) = T at *
      go_wp2
      go_ret
      exact ⟨by rw [← HT.out]; rfl, HK.out⟩
end Go.Proofs.YtlbpmehlfihpbaaDoor
