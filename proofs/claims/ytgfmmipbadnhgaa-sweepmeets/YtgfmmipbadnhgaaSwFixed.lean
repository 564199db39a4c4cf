/- What the landed Summary, Push and Pull answer, as the laws' walks take it; and the chapter's example. -/
import Derived.Test.YtgfmmipbadnhgaaSwGive
namespace Go.Proofs.Ytgfmmipbadnhgaa
open Go.ChangeShapes Go.WideShapes Go.ChangeAt Go.RowKit
set_option linter.unusedVariables false
set_option linter.unusedSimpArgs false
set_option maxRecDepth 100000

/- A call that answers a row that can be read. -/
def RowR {α : Type} (enc : α → List Value) (c : Nat) (xs : List α) (w : World) (e : Ending) (w' : World) : Prop := ∃ v, e = .returned v ∧ Rg enc c w' v xs ∧ Kept w w'
def PullR (l : List R) (t : List Sn) (w : World) (e : Ending) (w' : World) : Prop := ∃ v m, e = .returned v ∧ PullIs l t m ∧ Rg encK 1 w' v m ∧ Kept w w'
/- Texts that aren't too long. -/
def Sml (l : List R) : Prop := ∀ r ∈ l, r.key.size ≤ 3000 ∧ r.body.size ≤ 3000
def SmlS (t : List Sn) : Prop := ∀ s ∈ t, s.key.size ≤ 3000
theorem sml_sums {l : List R} (h : Sml l) : SmlS (sums l) := fun s hs => by
  obtain ⟨r, hr, rfl⟩ := mem_sums.1 hs
  exact (h r hr).1
theorem sml_of {l : List R} (h : ∀ r ∈ l, r.key.size ≤ 1000 ∧ r.body.size ≤ 3000) : Sml l := fun r hr => ⟨by have := (h r hr).1; omega, (h r hr).2⟩
theorem smls_of {t : List Sn} (h : ∀ s ∈ t, s.key.size ≤ 1000) : SmlS t := fun s hs => by have := h s hs; omega
theorem sml_give {a b : List R} (ha : Sml a) (hb : Sml b) (t : List Sn) (hua : Unlike a) (hub : Unlike b) (ht : t = sums a) : Sml (give a (push b t)) := fun r hr => by
  subst ht
  rcases give_has hua hub hr with ⟨h, _⟩ | ⟨h, _⟩
  · exact ha r h
  · exact hb r h
def SumIs : Prop := ∀ (l : List R) (v : Value) (w : World), l.length ≤ 200 → Sml l → Rg encR 8 w v l → Calls Try.prog 11 #[v] w (RowR encS 5 (sums l) w)
def PushIs : Prop := ∀ (l : List R) (t : List Sn) (v u : Value) (w : World), l.length ≤ 200 → t.length ≤ 200 → Sml l → SmlS t → Rg encR 8 w v l → Rg encS 5 w u t → Calls Try.prog 14 #[v, u] w (RowR encR 8 (push l t) w)
def PullsIs : Prop := ∀ (l : List R) (t : List Sn) (v u : Value) (w : World), l.length ≤ 200 → t.length ≤ 200 → Sml l → SmlS t → Rg encR 8 w v l → Rg encS 5 w u t → Calls Try.prog 17 #[v, u] w (PullR l t w)
def fMine : List R := [⟨⟨#[97]⟩, ⟨2, 0, 0⟩, 2, 0, 0, ⟨#[]⟩⟩]
def fTheirs : List Sn := [⟨⟨#[97]⟩, ⟨1, 0, 0⟩, 3⟩, ⟨⟨#[98]⟩, ⟨5, 0, 0⟩, 1⟩]
theorem f_mine : Sml fMine := by unfold Sml fMine; decide
theorem f_theirs : SmlS fTheirs := by unfold SmlS fTheirs; decide
theorem f_push : push fMine fTheirs = fMine := by
  have h : cov fTheirs (seen ⟨⟨#[97]⟩, ⟨2, 0, 0⟩, 2, 0, 0, ⟨#[]⟩⟩) = false := by decide
  unfold push fMine
  simp [h]
theorem f_pull {m : List ByteArray} (h : PullIs fMine fTheirs m) : m = [⟨#[98]⟩] := by
  have e : pullR fMine [] fTheirs = [⟨#[98]⟩] := by
    have h1 : cov (sums fMine) ⟨⟨#[97]⟩, ⟨1, 0, 0⟩, 3⟩ = true := by decide
    have h2 : cov (sums fMine) ⟨⟨#[98]⟩, ⟨5, 0, 0⟩, 1⟩ = false := by decide
    unfold fTheirs
    rw [pullR, h1, if_pos rfl, pullR, h2, if_neg (by simp), pullR]
    rfl
  rw [← e]
  exact pull_uniq h (pullR_is _ _)
set_option maxHeartbeats 3200000 in
theorem fixed_any (hPu : PushIs) (hPl : PullsIs) (w : World) : Calls Try.prog 9 #[] w fun e w' => e = .returned (.bool true) ∧ Kept w w' := by
  have HPu := hid hPu
  have HPl := hid hPl
  have HOm : Hid (Og encR 8 41 (w.alloc (.cells #[.string ⟨#[97]⟩, .int .u64 2, .int .u32 0, .int .u8 0, .int .u8 2, .int .u32 0, .int .u64 0, .string ⟨#[]⟩] 41)) w.heap.size (.slice (some ⟨w.heap.size, 0, none⟩) 1 1) fMine) := hid (og_built encR_ok 41 w _ (Nat.le_refl _) fMine (by decide))
  have HK1 := hid (kept_alloc (kept_refl w) (.cells #[.string ⟨#[97]⟩, .int .u64 2, .int .u32 0, .int .u8 0, .int .u8 2, .int .u32 0, .int .u64 0, .string ⟨#[]⟩] 41))
  obtain ⟨w1, hw1⟩ : ∃ w1, w.alloc (.cells #[.string ⟨#[97]⟩, .int .u64 2, .int .u32 0, .int .u8 0, .int .u8 2, .int .u32 0, .int .u64 0, .string ⟨#[]⟩] 41) = w1 := ⟨_, rfl⟩
  rw [hw1] at HOm HK1
  have HOt : Hid (Og encS 5 43 (w1.alloc (.cells #[.string ⟨#[97]⟩, .int .u64 1, .int .u32 0, .int .u8 0, .int .u8 3, .string ⟨#[98]⟩, .int .u64 5, .int .u32 0, .int .u8 0, .int .u8 1] 43)) w1.heap.size (.slice (some ⟨w1.heap.size, 0, none⟩) 2 2) fTheirs) := hid (og_built encS_ok 43 w1 _ (Nat.le_refl _) fTheirs (by decide))
  have HK2 := hid (kept_alloc (kept_refl w1) (.cells #[.string ⟨#[97]⟩, .int .u64 1, .int .u32 0, .int .u8 0, .int .u8 3, .string ⟨#[98]⟩, .int .u64 5, .int .u32 0, .int .u8 0, .int .u8 1] 43))
  obtain ⟨w2, hw2⟩ : ∃ w2, w1.alloc (.cells #[.string ⟨#[97]⟩, .int .u64 1, .int .u32 0, .int .u8 0, .int .u8 3, .string ⟨#[98]⟩, .int .u64 5, .int .u32 0, .int .u8 0, .int .u8 1] 43) = w2 := ⟨_, rfl⟩
  rw [hw2] at HOt HK2
  have HRm := hid (rg_own encR_ok (og_stays HOm.out HK2.out))
  have HRt := hid (rg_own encS_ok HOt.out)
  have HK := hid (kept_trans HK1.out HK2.out)
  clear HOm HOt HK1 HK2 hPu hPl
  go_enter Try.func9, Try.ntmps9
  go_wp2_with fail
  generalize w.heap.size = Bm at *
  generalize w1.heap.size = Bt at *
  clear hw1 hw2
  refine (HPu.out fMine fTheirs _ _ w2 (by decide) (by decide) f_mine f_theirs HRm.out HRt.out).mono ?_
  rintro e w3 ⟨v3, rfl, r3, k3⟩
  rw [f_push] at r3
  have HR3 := hid r3
  have HRm3 := hid (rg_kept encR_ok HRm.out k3)
  have HRt3 := hid (rg_kept encS_ok HRt.out k3)
  have HK3 := hid (kept_trans HK.out k3)
  clear r3 k3 HRm HRt HK
  go_wp2_with fail
  refine (sameR_any fMine (by decide) _ _ w3 HR3.out HRm3.out).mono ?_
  rintro e w4 ⟨rfl, k4⟩
  have HRm4 := hid (rg_kept encR_ok HRm3.out k4)
  have HRt4 := hid (rg_kept encS_ok HRt3.out k4)
  have HK4 := hid (kept_trans HK3.out k4)
  clear k4 HRm3 HRt3 HK3 HR3
  go_wp2_with fail
  refine (HPl.out fMine fTheirs _ _ w4 (by decide) (by decide) f_mine f_theirs HRm4.out HRt4.out).mono ?_
  rintro e w5 ⟨v5, m, rfl, hm, r5, k5⟩
  rw [f_pull hm] at r5
  have HK5 := hid (kept_alloc (kept_trans HK4.out k5) (.cells #[.string ⟨#[98]⟩] 9))
  have HA5 := hid (rg_alone encK_ok (y := ⟨#[98]⟩) (at_new w5 #[.string ⟨#[98]⟩] 9))
  have HR5 := hid (rg_kept encK_ok r5 (kept_alloc (kept_refl w5) (.cells #[.string ⟨#[98]⟩] 9)))
  clear r5 k5 hm HRm4 HRt4 HK4
  go_wp2_with fail
  refine (sameK_any [⟨#[98]⟩] (by decide) _ _ _ HR5.out HA5.out).mono ?_
  rintro e w6 ⟨rfl, k6⟩
  have HK6 := hid (kept_trans HK5.out k6)
  clear k6 HK5
  go_wp2_with fail
  go_ret
  exact ⟨rfl, HK6.out⟩
end Go.Proofs.Ytgfmmipbadnhgaa
