/- The contracts of the program's All and Up. Views have at most 256 members. -/
import Derived.Test.YtdcokccfannfmaaVwCode2
namespace Go.Proofs.Ytdcokccfannfmaa
open Go.ChangeShapes Go.WideShapes Go.ChangeAt Go.RowKit
set_option linter.unusedVariables false
set_option linter.unusedSimpArgs false
set_option maxRecDepth 100000

set_option maxHeartbeats 1600000 in
theorem all_any (l : List M) (hn : l.length ≤ 256) (v : Value) (w : World) (h : Rg encM 2 w v l) : Calls Try.prog 22 #[v] w (GRowC encN 3 42 (allN l) w) := by
  have HR := hid h
  obtain ⟨a, cap, rfl, -, -, -, -⟩ := h
  have HG : Hid (∀ k, k < l.length → ∃ y, l[k]? = some y) := hid (fun k hk => ⟨l[k], List.getElem?_eq_getElem hk⟩)
  have HP : Hid (0 < l.length → ∃ g o, a = some ⟨g, o, none⟩) := hid (fun hp => by
    obtain ⟨g, o, c, e⟩ := rg_pos HR.out hp
    injection e with e1
    exact ⟨g, o, e1⟩)
  have HT : Hid (l.take l.length = l) := hid List.take_length
  have HLe : Hid (∀ k, k ≤ l.length → (allN (l.take k)).length = k) := hid (fun k hk => by rw [allN_len, List.length_take]; omega)
  have HNx : Hid (∀ k x, l[k]? = some x → allN (l.take (k + 1)) = allN (l.take k) ++ [⟨(k : Int), x⟩]) := hid (fun k x hx => by
    have hl := (List.getElem?_eq_some_iff.1 hx).1
    unfold allN
    rw [take_next hx, allFrom_snoc, List.length_take, Nat.zero_add, Nat.min_eq_left (by omega)])
  have HO0 := hid (og_nil encN 3 42 w w.heap.size)
  have HK0 := hid (kept_refl w)
  have zs := zeroM
  generalize hnn : l.length = n at *
  clear hnn
  generalize hB0 : w.heap.size = B0 at *
  have HB0 := hid hB0
  go_enter Try.func22, Try.ntmps22
  go_wp2_with fail
  clear hB0
  go_loopw [3, 8] (fun ks j wr => ∃ k : Nat, k ≤ n ∧ j = .int .i64 (k : Int) ∧ Hid (Og encN 3 42 wr B0 ks (allN (l.take k))) ∧ Hid (Kept w wr)) (fun _ j _ => n - (intOf j).toNat)
  case atStart => exact ⟨0, Nat.zero_le _, rfl, HO0, HK0⟩
  case round =>
    obtain ⟨k, hk, rfl, HO, HKr⟩ := hrel
    clear HO0 HK0
    by_cases hlt : k < n
    · obtain ⟨x, hx⟩ := HG.out k hlt
      obtain ⟨g, o, rfl⟩ := HP.out (by omega)
      obtain ⟨c0, c1⟩ := rg_M (rg_kept encM_ok HR.out HKr.out) hx
      have HE := hid (HNx.out k x hx)
      have hw := u8_wrap (k : Int) (by omega) (by omega)
      have h255 : ¬ (255 : Int) < (k : Int) := by omega
      have HKb := hid (kept_alloc HKr.out (.cells #[.int .u8 x.st, .int .u32 x.inc] 33))
      have HKa := hid (kept_alloc HKb.out (.cells #[.int .u8 (k : Int), .int .u8 x.st, .int .u32 x.inc] 42))
      have HOx := hid (og_stays HO.out (kept_alloc (kept_alloc (kept_refl wr) (.cells #[.int .u8 x.st, .int .u32 x.inc] 33)) (.cells #[.int .u8 (k : Int), .int .u8 x.st, .int .u32 x.inc] 42)))
      have HAl := hid (rg_alone encN_ok (y := ⟨(k : Int), x⟩) (at_new (wr.alloc (.cells #[.int .u8 x.st, .int .u32 x.inc] 33)) #[.int .u8 (k : Int), .int .u8 x.st, .int .u32 x.inc] 42))
      simp only [World.size_alloc] at HAl
      have HBw : Hid (B0 ≤ ((wr.alloc (.cells #[.int .u8 x.st, .int .u32 x.inc] 33)).alloc (.cells #[.int .u8 (k : Int), .int .u8 x.st, .int .u32 x.inc] 42)).heap.size) := hid (by have := HKa.out.2; have := HB0.out; omega)
      have HLk := hid (HLe.out k hk)
      clear hx
      go_wp2_with (at_builtin; go_must (refine wpList_gapp rfl (.tmp 15) (.tmp 20) rfl encN_ok tyN (by decide) B0 _ _ _ _ rfl HOx.out rfl HAl.out (by have := HLk.out; simp; omega) HBw.out ?_; intro v3 w3 hown3 hgrow3 hnil3))
      have HO3 : Hid (Og encN 3 42 w3 B0 v3 (allN (l.take (k + 1)))) := hid (by rw [HE.out]; exact hown3)
      have HK3 := hid (kept_gr HKa.out hgrow3 (fun j hj => by have := og_lt HOx.out hj; have := HB0.out; omega))
      clear hown3 hgrow3 hnil3
      go_wp2_with fail
      go_roundw
      case rel => exact ⟨k + 1, by omega, by go_num, HO3, HK3⟩
      case measure => simp [intOf]; omega
    · have he : k = n := by omega
      subst he
      rw [HT.out] at HO
      go_wp2_with fail
      go_ret
      exact ⟨_, rfl, by rw [HB0.out]; exact HO.out, HKr.out⟩
theorem allFrom_get : ∀ {l : List M} {i k : Nat} {m : M}, l[i]? = some m → (allFrom k l)[i]? = some ⟨((k + i : Nat) : Int), m⟩
  | [], i, k, m, h => by simp at h
  | y :: l, 0, k, m, h => by
    simp at h
    subst h
    unfold allFrom
    simp
  | y :: l, i + 1, k, m, h => by
    simp at h
    have := allFrom_get (k := k + 1) h
    unfold allFrom
    rw [List.getElem?_cons_succ, this, show k + 1 + i = k + (i + 1) by omega]
theorem allN_get {l : List M} {i : Nat} {m : M} (h : l[i]? = some m) : (allN l)[i]? = some ⟨(i : Int), m⟩ := by
  have := allFrom_get (k := 0) h
  rw [Nat.zero_add] at this
  exact this
theorem all_is : AllIs := fun v vv w hn _ h => (all_any v (by omega) vv w h).mono (fun e w' ⟨x, e1, o1, k1⟩ => ⟨x, e1, rg_own encN_ok o1, k1⟩)
set_option maxHeartbeats 1600000 in
theorem up_any (l : List M) (hn : l.length ≤ 256) (v : Value) (w : World) (h : Rg encM 2 w v l) : Calls Try.prog 20 #[v] w (RowR encU 1 (upN l) w) := by
  have HA := hid (all_any l hn v w h)
  have HG : Hid (∀ k, k < l.length → ∃ y, l[k]? = some y ∧ (allN l)[k]? = some ⟨(k : Int), y⟩) := hid (fun k hk => ⟨l[k], List.getElem?_eq_getElem hk, allN_get (List.getElem?_eq_getElem hk)⟩)
  have HAl : Hid ((allN l).length = l.length) := hid (allN_len l)
  have HT : Hid (l.take l.length = l) := hid List.take_length
  have HLe : Hid (∀ k, k ≤ l.length → (upN (l.take k)).length ≤ k) := hid (fun k hk => by
    have := upFrom_len (l.take k) 0
    rw [List.length_take] at this
    unfold upN
    omega)
  have HNx : Hid (∀ k x, l[k]? = some x → k ≤ l.length → upN (l.take (k + 1)) = upN (l.take k) ++ (if isUp x then [(k : Int)] else [])) := hid (fun k x hx hk => by
    have hl := (List.getElem?_eq_some_iff.1 hx).1
    unfold upN
    rw [take_next hx, upFrom_snoc, List.length_take, Nat.zero_add, Nat.min_eq_left (by omega)])
  clear h
  have zs := zeroN
  generalize hnn : l.length = n at *
  clear hnn
  go_enter Try.func20, Try.ntmps20
  go_wp2_with fail
  refine HA.out.mono ?_
  rintro e w1 ⟨v1, rfl, o1, k1⟩
  have HR := hid (rg_own encN_ok o1)
  have HK1 := hid k1
  have hr := rg_own encN_ok o1
  clear o1 k1 HA
  obtain ⟨a, cap, hv1, -, -, -, -⟩ := hr
  rw [HAl.out] at hv1
  subst hv1
  have HP : Hid (0 < n → ∃ g o, a = some ⟨g, o, none⟩) := hid (fun hp => by
    obtain ⟨g, o, c, e⟩ := rg_pos HR.out (by rw [HAl.out]; exact hp)
    injection e with e1
    exact ⟨g, o, e1⟩)
  have HO0 := hid (og_nil encU 1 5 w1 w1.heap.size)
  have HK0 := hid (kept_refl w1)
  generalize hB0 : w1.heap.size = B0 at *
  have HB0 := hid hB0
  clear hB0
  go_wp2_with fail
  go_loopw [3, 9] (fun ks j wr => ∃ k : Nat, k ≤ n ∧ j = .int .i64 (k : Int) ∧ Hid (Og encU 1 5 wr B0 ks (upN (l.take k))) ∧ Hid (Kept w1 wr)) (fun _ j _ => n - (intOf j).toNat)
  case atStart => exact ⟨0, Nat.zero_le _, rfl, HO0, HK0⟩
  case round =>
    obtain ⟨k, hk, rfl, HO, HKr⟩ := hrel
    clear HO0 HK0
    by_cases hlt : k < n
    · obtain ⟨x, hx, hy⟩ := HG.out k hlt
      obtain ⟨g, o, rfl⟩ := HP.out (by omega)
      obtain ⟨c0, c1, c2⟩ := rg_N (rg_kept encN_ok HR.out HKr.out) hy
      have HNy := hid (HNx.out k x hx (by omega))
      have HKb := hid (kept_alloc HKr.out (.cells #[.int .u8 (k : Int), .int .u8 x.st, .int .u32 x.inc] 42))
      have HKa := hid (kept_alloc HKb.out (.cells #[.int .u8 (k : Int)] 5))
      have HOx := hid (og_stays HO.out (kept_alloc (kept_alloc (kept_refl wr) (.cells #[.int .u8 (k : Int), .int .u8 x.st, .int .u32 x.inc] 42)) (.cells #[.int .u8 (k : Int)] 5)))
      have HOb := hid (og_stays HO.out (kept_alloc (kept_refl wr) (.cells #[.int .u8 (k : Int), .int .u8 x.st, .int .u32 x.inc] 42)))
      have HAl2 := hid (rg_alone encU_ok (y := (k : Int)) (at_new (wr.alloc (.cells #[.int .u8 (k : Int), .int .u8 x.st, .int .u32 x.inc] 42)) #[.int .u8 (k : Int)] 5))
      simp only [World.size_alloc] at HAl2
      have HBw : Hid (B0 ≤ ((wr.alloc (.cells #[.int .u8 (k : Int), .int .u8 x.st, .int .u32 x.inc] 42)).alloc (.cells #[.int .u8 (k : Int)] 5)).heap.size) := hid (by have := HKa.out.2; have := HB0.out; omega)
      have HLk := hid (HLe.out k hk)
      clear hx hy
      by_cases h1 : x.st = 1
      · have b1 : (x.st == 1) = true := by simpa using h1
        have HE : Hid (upN (l.take (k + 1)) = upN (l.take k) ++ [(k : Int)]) := hid (by rw [HNy.out]; unfold isUp; simp [h1])
        clear h1
        go_wp2_with (at_builtin; go_must (refine wpList_gapp rfl (.tmp 23) (.tmp 26) rfl encU_ok tyU (by decide) B0 _ _ _ _ rfl HOx.out rfl HAl2.out (by have := HLk.out; simp; omega) HBw.out ?_; intro v3 w3 hown3 hgrow3 hnil3))
        have HO3 : Hid (Og encU 1 5 w3 B0 v3 (upN (l.take (k + 1)))) := hid (by rw [HE.out]; exact hown3)
        have HK3 := hid (kept_gr HKa.out hgrow3 (fun j hj => by have := og_lt HOx.out hj; have := HB0.out; omega))
        clear hown3 hgrow3 hnil3
        go_wp2_with fail
        go_roundw
        case rel => exact ⟨k + 1, by omega, by go_num, HO3, HK3⟩
        case measure => simp [intOf]; omega
      · have b1 : (x.st == 1) = false := by simpa using h1
        by_cases h2 : x.st = 2
        · have b2 : (x.st == 2) = true := by simpa using h2
          have HE : Hid (upN (l.take (k + 1)) = upN (l.take k) ++ [(k : Int)]) := hid (by rw [HNy.out]; unfold isUp; simp [h2])
          clear h1 h2
          go_wp2_with (at_builtin; go_must (refine wpList_gapp rfl (.tmp 23) (.tmp 26) rfl encU_ok tyU (by decide) B0 _ _ _ _ rfl HOx.out rfl HAl2.out (by have := HLk.out; simp; omega) HBw.out ?_; intro v3 w3 hown3 hgrow3 hnil3))
          have HO3 : Hid (Og encU 1 5 w3 B0 v3 (upN (l.take (k + 1)))) := hid (by rw [HE.out]; exact hown3)
          have HK3 := hid (kept_gr HKa.out hgrow3 (fun j hj => by have := og_lt HOx.out hj; have := HB0.out; omega))
          clear hown3 hgrow3 hnil3
          go_wp2_with fail
          go_roundw
          case rel => exact ⟨k + 1, by omega, by go_num, HO3, HK3⟩
          case measure => simp [intOf]; omega
        · have b2 : (x.st == 2) = false := by simpa using h2
          have HE : Hid (upN (l.take (k + 1)) = upN (l.take k)) := hid (by rw [HNy.out]; unfold isUp; simp [h1, h2])
          clear h1 h2
          go_wp2_with fail
          go_roundw
          case rel => exact ⟨k + 1, by omega, by go_num, hid (by rw [HE.out]; exact HOb.out), HKb⟩
          case measure => simp [intOf]; omega
    · have he : k = n := by omega
      subst he
      rw [HT.out] at HO
      go_wp2_with fail
      go_ret
      exact ⟨_, rfl, rg_own encU_ok HO.out, kept_trans HK1.out HKr.out⟩
theorem up_is : UpIs := fun v vv w hn _ h => up_any v (by omega) vv w h
end Go.Proofs.Ytdcokccfannfmaa
