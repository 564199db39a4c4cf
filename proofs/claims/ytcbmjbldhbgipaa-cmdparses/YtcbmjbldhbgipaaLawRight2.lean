/- The walk of the statement CmdRight, of any line: true, and nothing that was there is turned. No condition. -/
import Derived.Test.YtcbmjbldhbgipaaLawRight
namespace Go.Proofs.Ytcbmjbldhbgipaa
open Go.ChangeShapes Go.WideShapes Go.ChangeAt Go.RowKit
set_option linter.unusedVariables false
set_option linter.unusedSimpArgs false

def OkK (K : List ByteArray) : Prop := (∀ k (h : k < K.length), keyMay K[k] = true) ∧ K.length ≤ 16
theorem okK_nil : OkK [] := ⟨fun k h => absurd h (by simp), by simp⟩
theorem okK_one (x : ByteArray) (h : keyMay x = true) : OkK [x] := ⟨fun k hk => by
  have : k = 0 := by simpa using hk
  subst this
  exact h, by simp⟩
def Class (p : Cm × Int) : Prop :=
  (∃ r, (r = rErr ∨ r = rFmt ∨ r = rBig) ∧ p.1 = bad r ∧ -1 ≤ p.2) ∨
  (∃ K fl ex qu, p.1 = ⟨2, K, fl, ex, qu, mt⟩ ∧ 0 ≤ p.2 ∧ p.2 ≤ 1024 ∧ OkK K) ∨
  (∃ ck K fl ex qu, p.1 = ⟨ck, K, fl, ex, qu, mt⟩ ∧ 1 ≤ ck ∧ ck ≤ 7 ∧ ck ≠ 2 ∧ p.2 = -1 ∧ OkK K)
theorem class_bad (r : ByteArray) (n : Int) (h : r = rErr ∨ r = rFmt ∨ r = rBig) (hn : -1 ≤ n) : Class (bad r, n) := .inl ⟨r, h, rfl, hn⟩
theorem dat_ge (L : List ByteArray) : -1 ≤ dat L := by
  unfold dat
  split
  · split <;> omega
  · omega
theorem class_alo (k : Int) (L : List ByteArray) (h1 : 1 ≤ k) (h7 : k ≤ 7) (h2 : k ≠ 2) : Class (aloC k L, -1) := by
  unfold aloC
  split
  · exact .inr (.inr ⟨_, _, _, _, _, rfl, h1, h7, h2, rfl, okK_nil⟩)
  · exact class_bad _ _ (.inr (.inl rfl)) (by omega)
theorem class_get (L : List ByteArray) : Class (getC L, -1) := by
  unfold getC
  split
  · rename_i h
    simp only [Bool.and_eq_true, decide_eq_true_eq, List.all_eq_true] at h
    exact .inr (.inr ⟨_, _, _, _, _, rfl, by omega, by omega, by omega, rfl, ⟨fun k hk => h.2 _ (List.getElem_mem hk), h.1.2⟩⟩)
  · exact class_bad _ _ (.inr (.inl rfl)) (by omega)
theorem class_del (L : List ByteArray) : Class (delC L, -1) := by
  unfold delC
  split
  · rename_i h
    rw [Bool.and_eq_true] at h
    exact .inr (.inr ⟨_, _, _, _, _, rfl, by omega, by omega, by omega, rfl, okK_one _ h.2⟩)
  · exact class_bad _ _ (.inr (.inl rfl)) (by omega)
theorem class_tou (L : List ByteArray) : Class (touC L, -1) := by
  unfold touC
  split
  · rename_i h
    rw [Bool.and_eq_true] at h
    split
    · exact .inr (.inr ⟨_, _, _, _, _, rfl, by omega, by omega, by omega, rfl, okK_one _ h.2⟩)
    · exact class_bad _ _ (.inr (.inl rfl)) (by omega)
  · exact class_bad _ _ (.inr (.inl rfl)) (by omega)
theorem class_set (L : List ByteArray) : Class (setC L, dat L) := by
  have hd := dat_ge L
  unfold setC
  split
  · rename_i h
    rw [Bool.and_eq_true] at h
    split
    · split
      · exact class_bad _ _ (.inr (.inl rfl)) hd
      · split
        · exact class_bad _ _ (.inr (.inr rfl)) hd
        · exact .inr (.inl ⟨_, _, _, _, rfl, by show 0 ≤ dat L; omega, by show dat L ≤ 1024; omega, okK_one _ h.2⟩)
    · exact class_bad _ _ (.inr (.inl rfl)) hd
  · exact class_bad _ _ (.inr (.inl rfl)) hd
theorem parse_class (W : List ByteArray) : Class (parseC W) := by
  cases W with
  | nil => exact class_bad _ _ (.inl rfl) (by omega)
  | cons x L =>
    rw [parseC_cons]
    repeat' split
    · exact class_get L
    · exact class_set L
    · exact class_del L
    · exact class_tou L
    · exact class_alo 5 L (by omega) (by omega) (by omega)
    · exact class_alo 6 L (by omega) (by omega) (by omega)
    · exact class_alo 7 L (by omega) (by omega) (by omega)
    · exact class_bad _ _ (.inl rfl) (by omega)
theorem reply_ok (r : ByteArray) (h : r = rErr ∨ r = rFmt ∨ r = rBig) : 2 < r.size ∧ r.size ≤ 5000 ∧ (r.extract (r.size - 2) r.size).toList = [13, 10] := by
  rcases h with rfl | rfl | rfl
  · exact ⟨by decide, by decide, by rw [Lib.extract_toList]; kernel_rfl⟩
  · exact ⟨by decide, by decide, by rw [Lib.extract_toList]; kernel_rfl⟩
  · exact ⟨by decide, by decide, by rw [Lib.extract_toList]; kernel_rfl⟩
theorem right_walk (s : ByteArray) (w : World) : Calls Try.prog 5 #[.string s] w fun e w' => e = .returned (.bool true) ∧ Kept w w' := by
  by_cases h : (5000 : Int) < (s.size : Int)
  · go_enter Try.func5, Try.ntmps5
    go_wp2_with (go_at_call 8; refine (fixed_any _).mono ?_; rintro e w1 ⟨rfl, hk⟩)
    go_ret
    exact ⟨rfl, hk⟩
  · have hs : s.size ≤ 5000 := by omega
    obtain ⟨c, n, hp⟩ : ∃ c n, parseC (words s) = (c, n) := ⟨_, _, rfl⟩
    have hc := parse_class (words s)
    rw [hp] at hc
    rcases hc with ⟨r, hr, rfl, hn⟩ | ⟨K, fl, ex, qu, rfl, h0, h1, hK⟩ | ⟨ck, K, fl, ex, qu, rfl, h1, h7, h2, rfl, hK⟩
    · exact right_bad s hs [] rfl n r (reply_ok r hr) hn hp okK_nil.1 okK_nil.2 w
    · exact right_set s hs K fl ex n qu ⟨h0, h1⟩ hp hK.1 hK.2 w
    · exact right_other s hs K ck fl ex qu ⟨h1, h7, h2⟩ hp hK.1 hK.2 w
end Go.Proofs.Ytcbmjbldhbgipaa
