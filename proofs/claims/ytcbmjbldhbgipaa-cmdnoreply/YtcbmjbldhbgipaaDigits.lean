/- The contract of the statements' own function that writes a number in digits. It turns nothing that was there. The number is below 10^18. -/
import Derived.Test.YtcbmjbldhbgipaaOpen
import Derived.OrdersHeld
import Derived.Deep.RegionHeld3
namespace Go.Proofs.Ytcbmjbldhbgipaa
open Go.ChangeShapes Go.WideShapes Go.ChangeAt Go.RowKit
set_option linter.unusedVariables false
set_option linter.unusedSimpArgs false

def digs (n : Nat) : List UInt8 := if n < 10 then [UInt8.ofNat (48 + n)] else digs (n / 10) ++ [UInt8.ofNat (48 + n % 10)]
theorem digs_low (n : Nat) (h : n < 10) : digs n = [UInt8.ofNat (48 + n)] := by rw [digs, if_pos h]
theorem digs_more (n : Nat) (h : ¬ n < 10) : digs n = digs (n / 10) ++ [UInt8.ofNat (48 + n % 10)] := by rw [digs, if_neg h]
theorem one_text {w : World} {B : Nat} {c : UInt8} (h : At w B #[.int .u8 (c.toNat : Int)] 5) : (convert 31 9 (.slice (some ⟨B, 0, none⟩) 1 1)).run Try.prog w = .ok (.string (ba [c])) w :=
  run_convert_bytes_back (P := Try.prog) w 31 9 5 ⟨B, 0, none⟩ 1 [c] Try.underlying31 Try.underlying5 Try.underlying9 (fun j hj => by
    have h0 : j = 0 := by simpa using hj
    subst h0
    have := at_cell h 0
    simpa [Addr.add] using this)
theorem byte_of (d : Nat) (h : d < 10) : (UInt8.ofNat (48 + d)).toNat = 48 + d := by
  rw [UInt8.toNat_ofNat']
  omega
set_option maxHeartbeats 1600000 in
theorem digits_low (n : Nat) (h : n < 10) (w : World) : Calls Try.prog 13 #[.int .i64 (n : Int)] w fun e w' => e = .returned (.string (ba (digs n))) ∧ Kept w w' := by
  obtain ⟨c, hc0⟩ : ∃ c, c = UInt8.ofNat (48 + n) := ⟨_, rfl⟩
  have hb := byte_of n h
  have HE : Hid (digs n = [c]) := by rw [hc0]; exact digs_low n h
  rw [← hc0] at hb
  rw [HE.out]
  have hc : IntKind.u8.wrap (48 + (n : Int)) = (c.toNat : Int) := by rw [IntKind.wrap_u8]; omega
  have hcv := one_text (at_new w #[.int .u8 (c.toNat : Int)] 5)
  have HK := hid (kept_alloc (kept_refl w) (.cells #[.int .u8 (c.toNat : Int)] 5))
  have h0 : ¬ (n : Int) < 0 := by omega
  have h1 : (n : Int) < 10 := by omega
  clear hc0 hb
  go_enter Try.func13, Try.ntmps13
  go_wp2
  go_ret
  exact ⟨rfl, HK.out⟩
set_option maxHeartbeats 1600000 in
set_option maxRecDepth 100000 in
theorem digits_more (n : Nat) (h : ¬ n < 10) (hn : n < 1000000000000000000) (hI : ∀ w, Calls Try.prog 13 #[.int .i64 ((n / 10 : Nat) : Int)] w fun e w' => e = .returned (.string (ba (digs (n / 10)))) ∧ Kept w w') (hl : (ba (digs (n / 10))).size ≤ 100) (w : World) :
    Calls Try.prog 13 #[.int .i64 (n : Int)] w fun e w' => e = .returned (.string (ba (digs n))) ∧ Kept w w' := by
  obtain ⟨q, hq0⟩ : ∃ q, q = n / 10 := ⟨_, rfl⟩
  obtain ⟨r, hr0⟩ : ∃ r, r = n % 10 := ⟨_, rfl⟩
  obtain ⟨c, hc0⟩ : ∃ c, c = UInt8.ofNat (48 + r) := ⟨_, rfl⟩
  have hb := byte_of r (by omega)
  rw [← hc0] at hb
  have HE : Hid (ba (digs q) ++ ba [c] = ba (digs n)) := by
    show _ = _
    rw [digs_more n h, ← hq0, ← hr0, ← hc0]
    unfold ba
    apply ByteArray.ext
    simp
  have hq : Int.tdiv (n : Int) 10 = (q : Int) := by rw [hq0]; rfl
  have hr : Int.tmod (n : Int) 10 = (r : Int) := by rw [hr0]; rfl
  have hc : IntKind.u8.wrap (48 + (r : Int)) = (c.toNat : Int) := by rw [IntKind.wrap_u8]; omega
  have hqw : IntKind.i64.wrap (q : Int) = (q : Int) := by rw [IntKind.wrap_i64]; omega
  have hrw : IntKind.i64.wrap (48 + (r : Int)) = 48 + (r : Int) := by rw [IntKind.wrap_i64]; omega
  rw [← hq0] at hI hl
  have HI := hid hI
  have hsz : (ba [c]).size = 1 := rfl
  have h0 : ¬ (n : Int) < 0 := by omega
  have h1 : ¬ (n : Int) < 10 := by omega
  have hr9 : r < 10 := by omega
  clear hc0 hb hq0 hr0 hI h
  go_enter Try.func13, Try.ntmps13
  go_wp2_with fail
  refine wp_region_noPanic ?_
  refine wp_region_held_drew (S := (fun _ => True)) (by kernel_rfl) (trivial) (fun hHeld => ?_)
  refine wpAnyH_take (i := 0) (v := .int .i64 (n : Int)) rfl (by kernel_rfl) (by kernel_rfl) (by kernel_rfl) (fun _ _ _ h => h) (Or.inl ⟨by rfl, fun w hSw => by (try dsimp only at hSw); go_simp⟩) (by assumption) ?_
  try simp only [List.getElem_toArray, List.getElem_cons_zero, List.getElem_cons_succ, Act.put, List.setIfInBounds_toArray, List.set_cons_zero, List.set_cons_succ]
  refine wpAnyH_take (i := 1) (v := .int .i64 (q : Int)) rfl (by kernel_rfl) (by kernel_rfl) (by kernel_rfl) (fun _ _ _ h => h) (Or.inl ⟨by rfl, fun w hSw => by (try dsimp only at hSw); go_simp⟩) (by assumption) ?_
  try simp only [List.getElem_toArray, List.getElem_cons_zero, List.getElem_cons_succ, Act.put, List.setIfInBounds_toArray, List.set_cons_zero, List.set_cons_succ]
  refine wpAnyH_take (i := 3) (v := .int .i64 (n : Int)) rfl (by kernel_rfl) (by kernel_rfl) (by kernel_rfl) (fun _ _ _ h => h) (Or.inl ⟨by rfl, fun w hSw => by (try dsimp only at hSw); go_simp⟩) (by assumption) ?_
  try simp only [List.getElem_toArray, List.getElem_cons_zero, List.getElem_cons_succ, Act.put, List.setIfInBounds_toArray, List.set_cons_zero, List.set_cons_succ]
  refine wpAnyH_take (i := 4) (v := .int .i64 (r : Int)) rfl (by kernel_rfl) (by kernel_rfl) (by kernel_rfl) (fun _ _ _ h => h) (Or.inl ⟨by rfl, fun w hSw => by (try dsimp only at hSw); go_simp; try (rw [hr])⟩) (by assumption) ?_
  try simp only [List.getElem_toArray, List.getElem_cons_zero, List.getElem_cons_succ, Act.put, List.setIfInBounds_toArray, List.set_cons_zero, List.set_cons_succ]
  refine wpAnyH_take (i := 5) (v := .int .i64 (48 + (r : Int))) rfl (by kernel_rfl) (by kernel_rfl) (by kernel_rfl) (fun _ _ _ h => h) (Or.inl ⟨by rfl, fun w hSw => by (try dsimp only at hSw); go_simp⟩) (by assumption) ?_
  try simp only [List.getElem_toArray, List.getElem_cons_zero, List.getElem_cons_succ, Act.put, List.setIfInBounds_toArray, List.set_cons_zero, List.set_cons_succ]
  refine wpAnyH_take (i := 6) (v := .int .u8 (c.toNat : Int)) rfl (by kernel_rfl) (by kernel_rfl) (by kernel_rfl) (fun _ _ _ h => h) (Or.inl ⟨by rfl, fun w hSw => by (try dsimp only at hSw); go_simp; try (rw [hc])⟩) (by assumption) ?_
  try simp only [List.getElem_toArray, List.getElem_cons_zero, List.getElem_cons_succ, Act.put, List.setIfInBounds_toArray, List.set_cons_zero, List.set_cons_succ]
  refine wpAnyH_ready (rs := [2, 7]) (by kernel_rfl) (by simp) ?_
  refine AllReadyH.cons (i := 2) rfl (fun K hK => ?_) ?_
  · go_simp
    refine (HI.out _).mono ?_
    rintro e w3 ⟨rfl, h3⟩
    have k1 := kept_trans (kept_drew (kept_refl w)) h3
    show K _ _
    refine hK.out _ _ (trivial) (fun hHeld => ?_)
    clear hK K
    try simp only [List.getElem_toArray, List.getElem_cons_zero, List.getElem_cons_succ, Act.put, List.setIfInBounds_toArray, List.set_cons_zero, List.set_cons_succ]
    refine wpAnyH_ready (rs := [7]) (by kernel_rfl) (by simp) ?_
    refine AllReadyH.cons (i := 7) rfl (fun K hK => ?_) AllReadyH.nil
    go_simp
    refine hK.out _ _ (trivial) (fun hHeld => ?_)
    clear hK K
    try simp only [List.getElem_toArray, List.getElem_cons_zero, List.getElem_cons_succ, Act.put, List.setIfInBounds_toArray, List.set_cons_zero, List.set_cons_succ]
    have hcv := one_text (at_new w3 #[.int .u8 (c.toNat : Int)] 5)
    refine wpAnyH_ready (rs := [8]) (by kernel_rfl) (by simp) ?_
    refine AllReadyH.cons (i := 8) rfl (fun K hK => ?_) AllReadyH.nil
    go_simp
    refine hK.out _ _ (trivial) (fun hHeld => ?_)
    clear hK K
    try simp only [List.getElem_toArray, List.getElem_cons_zero, List.getElem_cons_succ, Act.put, List.setIfInBounds_toArray, List.set_cons_zero, List.set_cons_succ]
    refine wpAnyH_take (i := 9) (v := .string (ba (digs q) ++ ba [c])) rfl (by kernel_rfl) (by kernel_rfl) (by kernel_rfl) (fun _ _ _ h => h) (Or.inl ⟨by rfl, fun w hSw => by (try dsimp only at hSw); go_simp; omega⟩) (by assumption) ?_
    try simp only [List.getElem_toArray, List.getElem_cons_zero, List.getElem_cons_succ, Act.put, List.setIfInBounds_toArray, List.set_cons_zero, List.set_cons_succ]
    refine wpAnyH_take (i := 10) (v := .string (ba (digs q) ++ ba [c])) rfl (by kernel_rfl) (by kernel_rfl) (by kernel_rfl) (fun _ _ _ h => h) (Or.inl ⟨by rfl, fun w hSw => by (try dsimp only at hSw); go_simp⟩) (by assumption) ?_
    try simp only [List.getElem_toArray, List.getElem_cons_zero, List.getElem_cons_succ, Act.put, List.setIfInBounds_toArray, List.set_cons_zero, List.set_cons_succ]
    refine wpAnyH_done (by kernel_rfl) ?_ _
    refine NoPanic.normal ?_
    go_wp2_with fail
    go_ret
    exact ⟨congrArg Ending.returned (congrArg Value.string HE.out), kept_alloc k1 _⟩
  refine AllReadyH.cons (i := 7) rfl (fun K hK => ?_) AllReadyH.nil
  go_simp
  refine hK.out _ _ (trivial) (fun hHeld => ?_)
  clear hK K
  try simp only [List.getElem_toArray, List.getElem_cons_zero, List.getElem_cons_succ, Act.put, List.setIfInBounds_toArray, List.set_cons_zero, List.set_cons_succ]
  have hB := at_drew (at_new w #[.int .u8 (c.toNat : Int)] 5)
  have kB := kept_drew (kept_alloc (kept_refl w) (.cells #[.int .u8 (c.toNat : Int)] 5))
  generalize (w.alloc (.cells #[.int .u8 (c.toNat : Int)] 5)).drew = wb at *
  generalize w.heap.size = bb at *
  refine wpAnyH_ready (rs := [2, 8]) (by kernel_rfl) (by simp) ?_
  refine AllReadyH.cons (i := 2) rfl (fun K hK => ?_) ?_
  · go_simp
    refine (HI.out _).mono ?_
    rintro e w3 ⟨rfl, h3⟩
    have hcv := one_text (at_kept hB h3)
    have k1 := kept_trans kB h3
    show K _ _
    refine hK.out _ _ (trivial) (fun hHeld => ?_)
    clear hK K
    try simp only [List.getElem_toArray, List.getElem_cons_zero, List.getElem_cons_succ, Act.put, List.setIfInBounds_toArray, List.set_cons_zero, List.set_cons_succ]
    refine wpAnyH_ready (rs := [8]) (by kernel_rfl) (by simp) ?_
    refine AllReadyH.cons (i := 8) rfl (fun K hK => ?_) AllReadyH.nil
    go_simp
    refine hK.out _ _ (trivial) (fun hHeld => ?_)
    clear hK K
    try simp only [List.getElem_toArray, List.getElem_cons_zero, List.getElem_cons_succ, Act.put, List.setIfInBounds_toArray, List.set_cons_zero, List.set_cons_succ]
    refine wpAnyH_take (i := 9) (v := .string (ba (digs q) ++ ba [c])) rfl (by kernel_rfl) (by kernel_rfl) (by kernel_rfl) (fun _ _ _ h => h) (Or.inl ⟨by rfl, fun w hSw => by (try dsimp only at hSw); go_simp; omega⟩) (by assumption) ?_
    try simp only [List.getElem_toArray, List.getElem_cons_zero, List.getElem_cons_succ, Act.put, List.setIfInBounds_toArray, List.set_cons_zero, List.set_cons_succ]
    refine wpAnyH_take (i := 10) (v := .string (ba (digs q) ++ ba [c])) rfl (by kernel_rfl) (by kernel_rfl) (by kernel_rfl) (fun _ _ _ h => h) (Or.inl ⟨by rfl, fun w hSw => by (try dsimp only at hSw); go_simp⟩) (by assumption) ?_
    try simp only [List.getElem_toArray, List.getElem_cons_zero, List.getElem_cons_succ, Act.put, List.setIfInBounds_toArray, List.set_cons_zero, List.set_cons_succ]
    refine wpAnyH_done (by kernel_rfl) ?_ _
    refine NoPanic.normal ?_
    go_wp2_with fail
    go_ret
    exact ⟨congrArg Ending.returned (congrArg Value.string HE.out), k1⟩
  refine AllReadyH.cons (i := 8) rfl (fun K hK => ?_) AllReadyH.nil
  have hcv := one_text hB
  go_simp
  refine hK.out _ _ (trivial) (fun hHeld => ?_)
  clear hK K
  try simp only [List.getElem_toArray, List.getElem_cons_zero, List.getElem_cons_succ, Act.put, List.setIfInBounds_toArray, List.set_cons_zero, List.set_cons_succ]
  refine wpAnyH_ready (rs := [2]) (by kernel_rfl) (by simp) ?_
  refine AllReadyH.cons (i := 2) rfl (fun K hK => ?_) AllReadyH.nil
  go_simp
  refine (HI.out _).mono ?_
  rintro e w3 ⟨rfl, h3⟩
  have k1 := kept_trans kB h3
  show K _ _
  refine hK.out _ _ (trivial) (fun hHeld => ?_)
  clear hK K
  try simp only [List.getElem_toArray, List.getElem_cons_zero, List.getElem_cons_succ, Act.put, List.setIfInBounds_toArray, List.set_cons_zero, List.set_cons_succ]
  refine wpAnyH_take (i := 9) (v := .string (ba (digs q) ++ ba [c])) rfl (by kernel_rfl) (by kernel_rfl) (by kernel_rfl) (fun _ _ _ h => h) (Or.inl ⟨by rfl, fun w hSw => by (try dsimp only at hSw); go_simp; omega⟩) (by assumption) ?_
  try simp only [List.getElem_toArray, List.getElem_cons_zero, List.getElem_cons_succ, Act.put, List.setIfInBounds_toArray, List.set_cons_zero, List.set_cons_succ]
  refine wpAnyH_take (i := 10) (v := .string (ba (digs q) ++ ba [c])) rfl (by kernel_rfl) (by kernel_rfl) (by kernel_rfl) (fun _ _ _ h => h) (Or.inl ⟨by rfl, fun w hSw => by (try dsimp only at hSw); go_simp⟩) (by assumption) ?_
  try simp only [List.getElem_toArray, List.getElem_cons_zero, List.getElem_cons_succ, Act.put, List.setIfInBounds_toArray, List.set_cons_zero, List.set_cons_succ]
  refine wpAnyH_done (by kernel_rfl) ?_ _
  refine NoPanic.normal ?_
  go_wp2_with fail
  go_ret
  exact ⟨congrArg Ending.returned (congrArg Value.string HE.out), k1⟩
theorem digs_all (n : Nat) : ∀ b ∈ digs n, 48 ≤ b.toNat ∧ b.toNat ≤ 57 := by
  induction n using Nat.strongRecOn with
  | ind n ih =>
    by_cases h : n < 10
    · rw [digs_low n h]
      intro b hb
      simp only [List.mem_singleton] at hb
      subst hb
      rw [byte_of n h]
      omega
    · rw [digs_more n h]
      intro b hb
      rcases List.mem_append.1 hb with hb | hb
      · exact ih (n / 10) (by omega) b hb
      · simp only [List.mem_singleton] at hb
        subst hb
        rw [byte_of _ (by omega)]
        omega
theorem digs_val (n : Nat) : val (digs n) = n := by
  induction n using Nat.strongRecOn with
  | ind n ih =>
    by_cases h : n < 10
    · rw [digs_low n h]
      show 0 * 10 + ((UInt8.ofNat (48 + n)).toNat - 48) = n
      rw [byte_of n h]
      omega
    · rw [digs_more n h]
      have h1 := ih (n / 10) (by omega)
      unfold val at *
      rw [List.foldl_append, h1]
      show n / 10 * 10 + ((UInt8.ofNat (48 + n % 10)).toNat - 48) = n
      rw [byte_of _ (by omega)]
      omega
theorem digs_len : ∀ (k n : Nat), 1 ≤ k → n < 10 ^ k → 1 ≤ (digs n).length ∧ (digs n).length ≤ k
  | 0, n, h, _ => by omega
  | k + 1, n, _, hn => by
    by_cases h : n < 10
    · rw [digs_low n h]; simp
    · rw [digs_more n h]
      rw [Nat.pow_succ] at hn
      have hk : 1 ≤ k := by
        rcases Nat.eq_zero_or_pos k with h0 | h0
        · subst h0; simp at hn; omega
        · exact h0
      have := digs_len k (n / 10) hk (by omega)
      simp
      omega
theorem digs_num (n : Nat) (h : n < 10000000000) : numL (digs n) = some n := by
  have hl := digs_len 10 n (by omega) (by simpa using h)
  rw [numL_good (digs n) hl.1 hl.2 (fun k hk => by
    have := digs_all n _ (List.getElem_mem hk)
    unfold digit
    simp [this]), digs_val]
theorem ba_size (l : List UInt8) : (ba l).size = l.length := by unfold ba; simp [ByteArray.size]
theorem ba_list (l : List UInt8) : (ba l).data.toList = l := by unfold ba; simp
theorem digits_any (n : Nat) (hn : n < 1000000000000000000) : ∀ w, Calls Try.prog 13 #[.int .i64 (n : Int)] w fun e w' => e = .returned (.string (ba (digs n))) ∧ Kept w w' := by
  induction n using Nat.strongRecOn with
  | ind n ih =>
    intro w
    by_cases h : n < 10
    · exact digits_low n h w
    · refine digits_more n h hn (ih (n / 10) (by omega) (by omega)) ?_ w
      rw [ba_size]
      have := digs_len 18 (n / 10) (by omega) (by omega)
      omega
def digsI (z : Int) : List UInt8 := if z < 0 then 45 :: digs (-z).toNat else digs z.toNat
set_option maxHeartbeats 1600000 in
theorem digits_int (z : Int) (h : -1000000000000000000 < z ∧ z < 1000000000000000000) (w : World) : Calls Try.prog 13 #[.int .i64 z] w fun e w' => e = .returned (.string (ba (digsI z))) ∧ Kept w w' := by
  unfold digsI
  by_cases hz : z < 0
  · rw [if_pos hz]
    obtain ⟨m, hm⟩ : ∃ m, m = (-z).toNat := ⟨_, rfl⟩
    rw [← hm]
    have hmz : -z = (m : Int) := by omega
    have HI := hid (digits_any m (by omega))
    have hw : IntKind.i64.wrap (-z) = (m : Int) := by rw [IntKind.wrap_i64]; omega
    have hl := digs_len 18 m (by omega) (by omega)
    have hsz : (ba (digs m)).size ≤ 18 := by rw [ba_size]; omega
    have HE : Hid ((⟨#[45]⟩ : ByteArray) ++ ba (digs m) = ba (45 :: digs m)) := by
      show _ = _
      unfold ba
      apply ByteArray.ext
      simp
    have hmb : Hid ((m : Int) < 1000000000000000000) := by show _ < _; omega
    clear hm hl h
    go_enter Try.func13, Try.ntmps13
    go_wp2_with fail
    rw [show wrap64 (m : Int) = (m : Int) by have := hmb.out; unfold wrap64; omega]
    refine (HI.out _).mono ?_
    rintro e w1 ⟨rfl, hk⟩
    have HK := hid hk
    clear hk
    generalize ba (digs m) = D at *
    go_wp2_with fail
    go_ret
    exact ⟨congrArg Ending.returned (congrArg Value.string HE.out), HK.out⟩
  · rw [if_neg hz]
    have := digits_any z.toNat (by omega) w
    rw [show ((z.toNat : Nat) : Int) = z by omega] at this
    exact this
end Go.Proofs.Ytcbmjbldhbgipaa
