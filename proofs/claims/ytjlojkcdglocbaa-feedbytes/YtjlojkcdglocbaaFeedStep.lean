/- Each of the feed's steps, whichever is next, reads on as the plain machine does. The text has at most 2^32 bytes. -/
import Derived.Test.YtjlojkcdglocbaaFeedSmall
namespace Go.Proofs.Ytjlojkcdglocbaa
open Go.ChangeShapes Go.WideShapes Go.ChangeAt Go.RowKit
set_option linter.unusedVariables false
set_option linter.unusedSimpArgs false

def fnOf : Pn → Nat
  | (false, false, false) => 17
  | (false, false, true) => 34
  | (false, true, false) => 48
  | (false, true, true) => 59
  | (true, false, false) => 58
  | (true, false, true) => 35
  | (true, true, false) => 28
  | (true, true, true) => 0
theorem next_fn (F : Nat) (p : Pn) (h : isOver p = false) : nextV F p = .func (.func (fnOf p)) #[.pointer (some ⟨F, 0, none⟩)] #[] := by cases p using Pn.each <;> first | rfl | cases h
theorem enters_fn (p : Pn) (h : isOver p = false) : ∀ args w, (callFunc (fnOf p) args).run Try.prog w = .ok (.enter (fnOf p) args) w := by
  cases p using Pn.each
  · exact enters_of Try.func17 (by kernel_rfl) rfl
  · exact enters_of Try.func34 (by kernel_rfl) rfl
  · exact enters_of Try.func48 (by kernel_rfl) rfl
  · exact enters_of Try.func59 (by kernel_rfl) rfl
  · exact enters_of Try.func58 (by kernel_rfl) rfl
  · exact enters_of Try.func35 (by kernel_rfl) rfl
  · exact enters_of Try.func28 (by kernel_rfl) rfl
  · cases h
theorem line_cases (h s : List UInt8) (hh : h.length ≤ 2048) : (∃ x r, s = x ++ 10 :: r ∧ (10 : UInt8) ∉ x ∧ h.length + x.length ≤ 2048) ∨ (∃ x b r, s = x ++ b :: r ∧ (10 : UInt8) ∉ x ∧ b ≠ 10 ∧ h.length + x.length = 2048) ∨ ((10 : UInt8) ∉ s ∧ h.length + s.length ≤ 2048) := by
  induction s generalizing h with
  | nil => exact .inr (.inr ⟨by simp, by simpa using hh⟩)
  | cons b t ih =>
    by_cases hb : b = 10
    · exact .inl ⟨[], t, by simp [hb], by simp, by simpa using hh⟩
    · by_cases hl : h.length = 2048
      · exact .inr (.inl ⟨[], b, t, rfl, by simp, hb, by simpa using hl⟩)
      · have hb' : ¬ (10 : UInt8) = b := fun e => hb e.symm
        rcases ih (h ++ [b]) (by simp; omega) with ⟨x, r, h1, h2, h3⟩ | ⟨x, c, r, h1, h2, h3, h4⟩ | ⟨h1, h2⟩
        · exact .inl ⟨b :: x, r, by simp [h1], by simp [h2, hb'], by simp at h3 ⊢; omega⟩
        · exact .inr (.inl ⟨b :: x, c, r, by simp [h1], by simp [h2, hb'], h3, by simp at h4 ⊢; omega⟩)
        · exact .inr (.inr ⟨by simp [h1, hb'], by simp at h2 ⊢; omega⟩)
theorem step_any (B F : Nat) (f : Fd) (hok : okF f) (hp : isOver f.p = false) (s : ByteArray) (h0 : s.data.toList ≠ []) (hsz : s.size ≤ 4294967296) (w : World) (hf : FeedAt B w F f) :
    Calls Try.prog (fnOf f.p) #[.pointer (some ⟨F, 0, none⟩), .string s] w (StepC B F f s w) := by
  cases he : f.p using Pn.each with
  | line =>
    have hl : f.h.length ≤ 2048 := by have := hok.1; simpa only [absF, he, okS] using this
    rcases line_cases f.h s.data.toList hl with ⟨x, r, h1, h2, h3⟩ | ⟨x, b, r, h1, h2, h3, h4⟩ | ⟨h1, h2⟩
    · exact line_end B F f hok he s x r h1 h2 h3 hsz w hf
    · exact line_long B F f hok he s x r b h1 h2 h3 h4 w hf
    · exact line_more B F f hok he s h0 h1 h2 w hf
  | data =>
    by_cases h : f.left - min f.left s.size = 0
    · exact data_done B F f hok he s _ rfl h0 hsz h w hf
    · exact data_on B F f hok he s _ rfl h0 hsz h w hf
  | tail =>
    cases hs : s.data.toList with
    | nil => exact absurd hs h0
    | cons b r =>
      by_cases hb : b = 13
      · subst hb; exact tail_cr B F f hok he s r hs w hf
      · exact tail_wrong B F f hok he s b r hs hb w hf
  | tailEnd =>
    cases hs : s.data.toList with
    | nil => exact absurd hs h0
    | cons b r =>
      by_cases hb : b = 10
      · subst hb; exact end_lf B F f hok he s r hs w hf
      · exact end_wrong B F f hok he s b r hs hb w hf
  | wrong =>
    rcases ix_list s.data.toList with ⟨h1, h2⟩ | ⟨x, r, h1, h2, h3⟩
    · exact wrong_more B F f hok he s h0 h1 h2 w hf
    · exact wrong_end B F f hok he s x r h1 h2 h3 hsz w hf
  | passData =>
    by_cases h : f.left - min f.left s.size = 0
    · exact pass_done B F f hok he s _ rfl h0 hsz h w hf
    · exact pass_on B F f hok he s _ rfl h0 hsz h w hf
  | passLine =>
    rcases ix_list s.data.toList with ⟨h1, h2⟩ | ⟨x, r, h1, h2, h3⟩
    · exact rest_more B F f hok he s h0 h1 h2 w hf
    · exact rest_end B F f hok he s x r h1 h2 h3 hsz w hf
  | over => rw [he] at hp; cases hp
end Go.Proofs.Ytjlojkcdglocbaa
