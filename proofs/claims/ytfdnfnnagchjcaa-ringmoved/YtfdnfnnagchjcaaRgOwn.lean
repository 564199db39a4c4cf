/- The contracts of the landed Weight, Owners and Owns, and of the library's slices.Contains. -/
import Derived.Test.YtfdnfnnagchjcaaRgHvy
namespace Go.Proofs.Ytfdnfnnagchjcaa
open Go.ChangeShapes Go.WideShapes Go.ChangeAt Go.RowKit
set_option linter.unusedVariables false
set_option linter.unusedSimpArgs false
set_option maxRecDepth 100000

theorem weight_is : WeightIs := by
  intro key n w hk h1 h2
  have HT := hid (fun u => text_any key (by unfold maxLen; omega) u)
  have HW := hid (fun t u => wt_any t n h1 h2 u)
  have HE : Hid (wt key n = twoI (textI key.data.toList key.size) (n + 1)) := hid rfl
  clear hk h1 h2
  go_enter Try.func11, Try.ntmps11
  go_wp2_with fail
  refine (HT.out _).mono ?_
  rintro e w' ⟨rfl, rfl⟩
  generalize textI key.data.toList key.size = t at *
  go_wp2_with fail
  refine (HW.out _ _).mono ?_
  rintro e w' ⟨rfl, rfl⟩
  go_wp2_with fail
  go_ret
  exact ⟨by rw [HE.out]; rfl, kept_refl _⟩
theorem wq_wt (key : ByteArray) : wq (textI key.data.toList key.size) = wt key := by
  funext n
  rfl
theorem owners_any (key : ByteArray) (l : List Int) (v : Value) (w : World) (hk : key.size ≤ 1000) (hu : U8 l) (h : Rg encU 1 w v l) : Calls Try.prog 14 #[.string key, v] w (GRowC encU 1 5 (owners key l) w) := by
  have HT := hid (fun u => text_any key (by unfold maxLen; omega) u)
  have HS := hid (set_any l hu v w h)
  have HO := hid (fun t p u => owns_t t p u)
  have HE : Hid (own (wq (textI key.data.toList key.size)) (mem l) = owners key l) := hid (by rw [wq_wt]; rfl)
  clear hk hu h
  go_enter Try.func14, Try.ntmps14
  go_wp2_with fail
  refine (HT.out _).mono ?_
  rintro e w' ⟨rfl, rfl⟩
  generalize textI key.data.toList key.size = t at *
  go_wp2_with fail
  refine HS.out.mono ?_
  rintro e w1 ⟨rfl, k1⟩
  have HK1 := hid k1
  have hO := HO.out t (mem l) w1
  rw [HE.out] at hO
  clear k1 HS HO
  generalize bv (mem l) = na at *
  go_wp2_with fail
  refine hO.mono ?_
  rintro e w2 ⟨v2, rfl, o2, k2⟩
  have HO2 := hid (og_low o2 HK1.out.2)
  have HK2 := hid (kept_trans HK1.out k2)
  clear hO o2 k2
  go_wp2_with fail
  go_ret
  exact ⟨v2, rfl, HO2.out, HK2.out⟩
theorem owners_is : OwnersIs := by
  intro key l v w hk hn hu h
  refine (owners_any key l v w hk hu h).mono ?_
  rintro e w1 ⟨v1, rfl, o1, k1⟩
  exact ⟨v1, rfl, rg_own encU_ok o1, k1⟩
/- Where a node first stands, or that it stands nowhere. -/
set_option maxHeartbeats 1600000 in
theorem idx_any (l : List Int) (hn : l.length ≤ 4096) (v : Value) (x : Int) (w : World) (h : Rg encU 1 w v l) : Calls Try.prog 35 #[v, .int .u8 x] w fun e w' => (∃ i : Int, e = .returned (.int .i64 i) ∧ decide ((0 : Int) ≤ i) = mem l x) ∧ w' = w := by
  have HR := hid h
  obtain ⟨a, cap, rfl, -, -, -, -⟩ := h
  have HG : Hid (∀ k, k < l.length → ∃ y, l[k]? = some y) := hid (fun k hk => ⟨l[k], List.getElem?_eq_getElem hk⟩)
  have HP : Hid (0 < l.length → ∃ g o, a = some ⟨g, o, none⟩) := hid (fun hp => by
    obtain ⟨g, o, c, e⟩ := rg_pos HR.out hp
    injection e with e1
    exact ⟨g, o, e1⟩)
  have HT : Hid (l.take l.length = l) := hid List.take_length
  generalize hm : l.length = m at *
  clear hm
  go_enter Try.func35, Try.ntmps35
  go_wp2_with fail
  go_loopw [8] (fun j wr => ∃ k : Nat, k ≤ m ∧ j = .int .i64 k ∧ Hid (x ∉ l.take k) ∧ wr = w) (fun j _ => m - (intOf j).toNat)
  case atStart => exact ⟨0, Nat.zero_le _, rfl, hid (by simp), rfl⟩
  case round =>
    obtain ⟨k, hk, rfl, HN, rfl⟩ := hrel
    by_cases hlt : k < m
    · obtain ⟨y, hy⟩ := HG.out k hlt
      obtain ⟨g, o, rfl⟩ := HP.out (by omega)
      have c0 := rg_U HR.out hy
      by_cases e : y = x
      · have hb : (x == y) = true := by simpa using e.symm
        have HE : Hid (mem l x = true) := hid (by unfold mem; rw [decide_eq_true_eq, ← e]; exact List.mem_of_getElem? hy)
        clear hy e
        go_wp2_with fail
        go_ret
        exact ⟨⟨_, rfl, by rw [HE.out]; simp⟩, by simp⟩
      · have hb : (x == y) = false := by simpa using fun h => e h.symm
        have HNx : Hid (x ∉ l.take (k + 1)) := hid (by
          rw [take_next hy, List.mem_append]
          rintro (h | h)
          · exact HN.out h
          · simp at h; exact e h.symm)
        clear hy e
        go_wp2_with fail
        go_roundw
        case rel => exact ⟨k + 1, by omega, by go_num, HNx, by simp⟩
        case measure => simp [intOf]; omega
    · have he : k = m := by omega
      subst he
      have HE : Hid (mem l x = false) := hid (by have := HN.out; rw [HT.out] at this; unfold mem; simp [this])
      go_wp2_with fail
      go_ret
      exact ⟨⟨_, rfl, by rw [HE.out]; rfl⟩, by simp⟩
theorem con_any (l : List Int) (hn : l.length ≤ 4096) (v : Value) (x : Int) (w : World) (h : Rg encU 1 w v l) : Calls Try.prog 28 #[v, .int .u8 x] w fun e w' => e = .returned (.bool (mem l x)) ∧ w' = w := by
  have HI := hid (idx_any l hn v x w h)
  clear h hn
  go_enter Try.func28, Try.ntmps28
  go_wp2_with fail
  refine HI.out.mono ?_
  rintro e w1 ⟨⟨i, rfl, hi⟩, rfl⟩
  have HI2 := hid hi
  clear HI hi
  go_wp2_with fail
  go_ret
  exact ⟨says_bool HI2.out, rfl⟩
theorem owns_is : OwnsIs := by
  intro key l n v w hk hl hu h1 h2 h
  have HO := hid (owners_any key l v w hk hu h)
  have HL := hid (owners_len key l)
  clear h hk hl hu h1 h2
  go_enter Try.func16, Try.ntmps16
  go_wp2_with fail
  refine HO.out.mono ?_
  rintro e w1 ⟨v1, rfl, o1, k1⟩
  have HK1 := hid k1
  have hI := con_any (owners key l) (by have := HL.out; omega) v1 n w1 (rg_own encU_ok o1)
  clear o1 k1 HO
  go_wp2_with fail
  refine hI.mono ?_
  rintro e w2 ⟨rfl, rfl⟩
  clear hI
  go_wp2_with fail
  go_ret
  exact ⟨rfl, HK1.out⟩
end Go.Proofs.Ytfdnfnnagchjcaa
