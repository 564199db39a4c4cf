/- The contracts of the reference's Up and All; the law's great; what the landed code must answer; the chapter's examples. -/
import Derived.Test.YtdcokccfannfmaaVwHear
namespace Go.Proofs.Ytdcokccfannfmaa
open Go.ChangeShapes Go.WideShapes Go.ChangeAt Go.RowKit
set_option linter.unusedVariables false
set_option linter.unusedSimpArgs false
set_option maxRecDepth 100000

set_option maxHeartbeats 1600000 in
theorem rup_any (l : List M) (hn : l.length ≤ 256) (v : Value) (w : World) (h : Rg encM 2 w v l) : Calls Try.prog 21 #[v] w (GRowN encU 1 5 (upN l) w) := by
  have HR := hid h
  obtain ⟨a, cap, rfl, -, -, -, -⟩ := h
  have HG : Hid (∀ k, k < l.length → ∃ y, l[k]? = some y) := hid (fun k hk => ⟨l[k], List.getElem?_eq_getElem hk⟩)
  have HP : Hid (0 < l.length → ∃ g o, a = some ⟨g, o, none⟩) := hid (fun hp => by
    obtain ⟨g, o, c, e⟩ := rg_pos HR.out hp
    injection e with e1
    exact ⟨g, o, e1⟩)
  have HT : Hid (l.take l.length = l) := hid List.take_length
  have HLe : Hid (∀ k, k ≤ l.length → (upN (l.take k)).length ≤ k) := hid (fun k hk => by
    have := upFrom_len (l.take k) 0
    rw [List.length_take] at this
    unfold upN
    omega)
  have HNx : Hid (∀ k x, l[k]? = some x → k ≤ l.length → upN (l.take (k + 1)) = upN (l.take k) ++ (if isUp x then [(k : Int)] else [])) := hid (fun k x hx hk => by
    have hl := (List.getElem?_eq_some_iff.1 hx).1
    unfold upN
    rw [take_next hx, upFrom_snoc, List.length_take, Nat.zero_add, Nat.min_eq_left (by omega)])
  have HO0 := hid (builtU w)
  have HK0 := hid (kept_alloc (kept_refl w) (.cells #[] 5))
  generalize hnn : l.length = n at *
  clear hnn
  go_enter Try.func21, Try.ntmps21
  go_wp2_with fail
  generalize w.alloc (.cells #[] 5) = w0 at *
  generalize hB0 : w.heap.size = B0 at *
  have HB0 := hid hB0
  clear hB0
  go_loopw [3, 8] (fun ks j wr => ∃ k : Nat, k ≤ n ∧ j = .int .i64 (k : Int) ∧ Hid (Og encU 1 5 wr B0 ks (upN (l.take k))) ∧ Hid (ks ≠ .slice none 0 0) ∧ Hid (Kept w wr)) (fun _ j _ => n - (intOf j).toNat)
  case atStart => exact ⟨0, Nat.zero_le _, rfl, HO0, hid (by simp), HK0⟩
  case round =>
    obtain ⟨k, hk, rfl, HO, HNn, HKr⟩ := hrel
    clear HO0 HK0
    by_cases hlt : k < n
    · obtain ⟨x, hx⟩ := HG.out k hlt
      obtain ⟨g, o, rfl⟩ := HP.out (by omega)
      obtain ⟨c0, c1⟩ := rg_M (rg_kept encM_ok HR.out HKr.out) hx
      have HNy := hid (HNx.out k x hx (by omega))
      have hw := u8_wrap (k : Int) (by omega) (by omega)
      have HKa := hid (kept_alloc HKr.out (.cells #[.int .u8 (k : Int)] 5))
      have HOx := hid (og_stays HO.out (kept_alloc (kept_refl wr) (.cells #[.int .u8 (k : Int)] 5)))
      have HAl := hid (rg_alone encU_ok (y := (k : Int)) (at_new wr #[.int .u8 (k : Int)] 5))
      have HBw : Hid (B0 ≤ (wr.alloc (.cells #[.int .u8 (k : Int)] 5)).heap.size) := hid (by have := HKa.out.2; have := HB0.out; omega)
      have HLk := hid (HLe.out k hk)
      clear hx
      by_cases h1 : x.st = 1
      · have b1 : (x.st == 1) = true := by simpa using h1
        have HE : Hid (upN (l.take (k + 1)) = upN (l.take k) ++ [(k : Int)]) := hid (by rw [HNy.out]; unfold isUp; simp [h1])
        clear h1
        go_wp2_with (at_builtin; go_must (refine wpList_gapp rfl (.tmp 25) (.tmp 28) rfl encU_ok tyU (by decide) B0 _ _ _ _ rfl HOx.out rfl HAl.out (by have := HLk.out; simp; omega) HBw.out ?_; intro v3 w3 hown3 hgrow3 hnil3))
        have HO3 : Hid (Og encU 1 5 w3 B0 v3 (upN (l.take (k + 1)))) := hid (by rw [HE.out]; exact hown3)
        have HK3 := hid (kept_gr HKa.out hgrow3 (fun j hj => by have := og_lt HOx.out hj; have := HB0.out; omega))
        go_roundw
        case rel => exact ⟨k + 1, by omega, by go_num, HO3, hid (hnil3 HNn.out), HK3⟩
        case measure => simp [intOf]; omega
      · have b1 : (x.st == 1) = false := by simpa using h1
        by_cases h2 : x.st = 2
        · have b2 : (x.st == 2) = true := by simpa using h2
          have HE : Hid (upN (l.take (k + 1)) = upN (l.take k) ++ [(k : Int)]) := hid (by rw [HNy.out]; unfold isUp; simp [h2])
          clear h1 h2
          go_wp2_with (at_builtin; go_must (refine wpList_gapp rfl (.tmp 25) (.tmp 28) rfl encU_ok tyU (by decide) B0 _ _ _ _ rfl HOx.out rfl HAl.out (by have := HLk.out; simp; omega) HBw.out ?_; intro v3 w3 hown3 hgrow3 hnil3))
          have HO3 : Hid (Og encU 1 5 w3 B0 v3 (upN (l.take (k + 1)))) := hid (by rw [HE.out]; exact hown3)
          have HK3 := hid (kept_gr HKa.out hgrow3 (fun j hj => by have := og_lt HOx.out hj; have := HB0.out; omega))
          go_roundw
          case rel => exact ⟨k + 1, by omega, by go_num, HO3, hid (hnil3 HNn.out), HK3⟩
          case measure => simp [intOf]; omega
        · have b2 : (x.st == 2) = false := by simpa using h2
          have HE : Hid (upN (l.take (k + 1)) = upN (l.take k)) := hid (by rw [HNy.out]; unfold isUp; simp [h1, h2])
          clear h1 h2
          go_wp2_with fail
          go_roundw
          case rel => exact ⟨k + 1, by omega, by go_num, hid (by rw [HE.out]; exact HO.out), HNn, HKr⟩
          case measure => simp [intOf]; omega
    · have he : k = n := by omega
      subst he
      rw [HT.out] at HO
      go_wp2_with fail
      go_ret
      exact ⟨_, rfl, by rw [HB0.out]; exact HO.out, HNn.out, HKr.out⟩
set_option maxHeartbeats 1600000 in
theorem rall_any (l : List M) (hn : l.length ≤ 256) (v : Value) (w : World) (h : Rg encM 2 w v l) : Calls Try.prog 23 #[v] w (GRowN encN 3 42 (allN l) w) := by
  have HR := hid h
  obtain ⟨a, cap, rfl, -, -, -, -⟩ := h
  have HG : Hid (∀ k, k < l.length → ∃ y, l[k]? = some y) := hid (fun k hk => ⟨l[k], List.getElem?_eq_getElem hk⟩)
  have HP : Hid (0 < l.length → ∃ g o, a = some ⟨g, o, none⟩) := hid (fun hp => by
    obtain ⟨g, o, c, e⟩ := rg_pos HR.out hp
    injection e with e1
    exact ⟨g, o, e1⟩)
  have HT : Hid (l.take l.length = l) := hid List.take_length
  have HLe : Hid (∀ k, k ≤ l.length → (allN (l.take k)).length = k) := hid (fun k hk => by rw [allN_len, List.length_take]; omega)
  have HNx : Hid (∀ k x, l[k]? = some x → allN (l.take (k + 1)) = allN (l.take k) ++ [⟨(k : Int), x⟩]) := hid (fun k x hx => by
    have hl := (List.getElem?_eq_some_iff.1 hx).1
    unfold allN
    rw [take_next hx, allFrom_snoc, List.length_take, Nat.zero_add, Nat.min_eq_left (by omega)])
  have HO0 := hid (builtN w)
  have HK0 := hid (kept_alloc (kept_refl w) (.cells #[] 42))
  generalize hnn : l.length = n at *
  clear hnn
  go_enter Try.func23, Try.ntmps23
  go_wp2_with fail
  generalize w.alloc (.cells #[] 42) = w0 at *
  generalize hB0 : w.heap.size = B0 at *
  have HB0 := hid hB0
  clear hB0
  go_loopw [3, 8] (fun ks j wr => ∃ k : Nat, k ≤ n ∧ j = .int .i64 (k : Int) ∧ Hid (Og encN 3 42 wr B0 ks (allN (l.take k))) ∧ Hid (ks ≠ .slice none 0 0) ∧ Hid (Kept w wr)) (fun _ j _ => n - (intOf j).toNat)
  case atStart => exact ⟨0, Nat.zero_le _, rfl, HO0, hid (by simp), HK0⟩
  case round =>
    obtain ⟨k, hk, rfl, HO, HNn, HKr⟩ := hrel
    clear HO0 HK0
    by_cases hlt : k < n
    · obtain ⟨x, hx⟩ := HG.out k hlt
      obtain ⟨g, o, rfl⟩ := HP.out (by omega)
      obtain ⟨c0, c1⟩ := rg_M (rg_kept encM_ok HR.out HKr.out) hx
      have HE := hid (HNx.out k x hx)
      have hw := u8_wrap (k : Int) (by omega) (by omega)
      have HKa := hid (kept_alloc HKr.out (.cells #[.int .u8 (k : Int), .int .u8 x.st, .int .u32 x.inc] 42))
      have HOx := hid (og_stays HO.out (kept_alloc (kept_refl wr) (.cells #[.int .u8 (k : Int), .int .u8 x.st, .int .u32 x.inc] 42)))
      have HAl := hid (rg_alone encN_ok (y := ⟨(k : Int), x⟩) (at_new wr #[.int .u8 (k : Int), .int .u8 x.st, .int .u32 x.inc] 42))
      have HBw : Hid (B0 ≤ (wr.alloc (.cells #[.int .u8 (k : Int), .int .u8 x.st, .int .u32 x.inc] 42)).heap.size) := hid (by have := HKa.out.2; have := HB0.out; omega)
      have HLk := hid (HLe.out k hk)
      clear hx
      go_wp2_with (at_builtin; go_must (refine wpList_gapp rfl (.tmp 11) (.tmp 19) rfl encN_ok tyN (by decide) B0 _ _ _ _ rfl HOx.out rfl HAl.out (by have := HLk.out; simp; omega) HBw.out ?_; intro v3 w3 hown3 hgrow3 hnil3))
      have HO3 : Hid (Og encN 3 42 w3 B0 v3 (allN (l.take (k + 1)))) := hid (by rw [HE.out]; exact hown3)
      have HK3 := hid (kept_gr HKa.out hgrow3 (fun j hj => by have := og_lt HOx.out hj; have := HB0.out; omega))
      go_roundw
      case rel => exact ⟨k + 1, by omega, by go_num, HO3, hid (hnil3 HNn.out), HK3⟩
      case measure => simp [intOf]; omega
    · have he : k = n := by omega
      subst he
      rw [HT.out] at HO
      go_wp2_with fail
      go_ret
      exact ⟨_, rfl, by rw [HB0.out]; exact HO.out, HNn.out, HKr.out⟩
/- A call that answers yes or no, and what holds then. -/
def Lets (P : Bool → Prop) (w : World) (e : Ending) (w' : World) : Prop := ∃ b, e = .returned (.bool b) ∧ P b ∧ w' = w
theorem great_any (a b : Option Addr) (n cap m cup : Nat) (w : World) : Calls Try.prog 9 #[.slice a n cap, .slice b m cup] w (Lets (fun b => b = false → n ≤ 64 ∧ m ≤ 300) w) := by
  by_cases h1 : (64 : Int) < (n : Int)
  · go_enter Try.func9, Try.ntmps9
    go_wp2
    go_ret
    exact ⟨true, rfl, fun e => (by cases e), rfl⟩
  · by_cases h2 : (300 : Int) < (m : Int)
    · have d2 : decide ((300 : Int) < (m : Int)) = true := by simpa using h2
      go_enter Try.func9, Try.ntmps9
      go_wp2
      go_ret
      exact ⟨true, by first | rfl | simp [d2], fun e => (by cases e), rfl⟩
    · have HE : Hid (n ≤ 64 ∧ m ≤ 300) := hid ⟨by omega, by omega⟩
      have d2 : decide ((300 : Int) < (m : Int)) = false := by simpa using h2
      go_enter Try.func9, Try.ntmps9
      go_wp2
      go_ret
      exact ⟨false, by first | rfl | simp [d2], fun _ => HE.out, rfl⟩
/- What the landed code must answer. -/
def RowR {α : Type} (enc : α → List Value) (c : Nat) (xs : List α) (w : World) (e : Ending) (w' : World) : Prop := ∃ v, e = .returned v ∧ Rg enc c w' v xs ∧ Kept w w'
def NewerIs : Prop := ∀ (a b : M) (w : World), Calls Try.prog 15 #[.agg #[.int .u8 a.st, .int .u32 a.inc], .agg #[.int .u8 b.st, .int .u32 b.inc]] w fun e w' => e = .returned (.bool (nwr a b)) ∧ Kept w w'
def FreshIs : Prop := ∀ (n : Int) (w : World), (Lit.int .i64 n).wf = true → Calls Try.prog 17 #[.int .i64 n] w (RowR encM 2 (fresh n) w)
def HearIs : Prop := ∀ (self : Int) (v : List M) (l : List Nw) (vv lv : Value) (w : World), 0 ≤ self → self < 256 → v.length ≤ 64 → l.length ≤ 1000 → (∀ m ∈ v, okM m) → (∀ x ∈ l, okN x) → Rg encM 2 w vv v → Rg encN 3 w lv l → Calls Try.prog 11 #[vv, .int .u8 self, lv] w (HearC self v l w)
def UpIs : Prop := ∀ (v : List M) (vv : Value) (w : World), v.length ≤ 64 → (∀ m ∈ v, okM m) → Rg encM 2 w vv v → Calls Try.prog 20 #[vv] w (RowR encU 1 (upN v) w)
def AllIs : Prop := ∀ (v : List M) (vv : Value) (w : World), v.length ≤ 64 → (∀ m ∈ v, okM m) → Rg encM 2 w vv v → Calls Try.prog 22 #[vv] w (RowR encN 3 (allN v) w)
def fNews : List Nw := [⟨1, ⟨3, 0⟩⟩, ⟨1, ⟨1, 0⟩⟩, ⟨1, ⟨1, 1⟩⟩, ⟨0, ⟨2, 4⟩⟩]
theorem fresh3 : fresh 3 = [⟨1, 0⟩, ⟨1, 0⟩, ⟨1, 0⟩] := rfl
theorem f_view : hearV 0 [⟨1, 0⟩, ⟨1, 0⟩, ⟨1, 0⟩] fNews = [⟨1, 5⟩, ⟨1, 1⟩, ⟨1, 0⟩] := rfl
theorem f_chg : (hearC 0 [⟨1, 0⟩, ⟨1, 0⟩, ⟨1, 0⟩] fNews).length = 3 := by decide
end Go.Proofs.Ytdcokccfannfmaa
