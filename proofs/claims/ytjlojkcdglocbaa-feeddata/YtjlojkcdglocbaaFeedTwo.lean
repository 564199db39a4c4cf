/- Two feeds side by side: a new one stays while another one reads; what a feed's own cells say of Held and Over. -/
import Derived.Test.YtjlojkcdglocbaaFeedSame
namespace Go.Proofs.Ytjlojkcdglocbaa
open Go.ChangeShapes Go.WideShapes Go.ChangeAt Go.RowKit
set_option linter.unusedVariables false
set_option linter.unusedSimpArgs false

def FreshAt (B : Nat) (w : World) (F : Nat) : Prop := B ≤ F ∧ At w F (fcells F .line (.slice none 0 0) (.slice none 0 0) zc 0) 48
theorem fresh_feed {B F : Nat} {w : World} (h : FreshAt B w F) : FeedAt B w F fresh := ⟨_, _, h.1, h.2, held_nil _ _, keys_nil _⟩
theorem fresh_kept {B F : Nat} {w w' : World} (h : FreshAt B w F) (k : Kept w w') : FreshAt B w' F := ⟨h.1, at_kept h.2 k⟩
theorem cell0 (F : Nat) (p : Pn) (hv kv : Value) (st : Cm) (left : Nat) (n : Int) : (fcells F p hv kv st left)[0]? ≠ some (.int .u8 n) := by
  intro e
  have e : some (nextV F p) = some (.int .u8 n) := e
  injection e with e
  exact next_u8 F p n e
theorem feed_fr {B F G : Nat} {w w' : World} {p : Pn} {hv kv : Value} {st : Cm} {left : Nat} (h : At w G (fcells G p hv kv st left) 48) (g : Fr B F w w') (hn : G ≠ F) : At w' G (fcells G p hv kv st left) 48 := at_fr h g hn (cell0 G p hv kv st left)
theorem fresh_fr {B F G : Nat} {w w' : World} (h : FreshAt B w G) (g : Fr B F w w') (hn : G ≠ F) : FreshAt B w' G := ⟨h.1, feed_fr h.2 g hn⟩
theorem fresh_grown {B B' F : Nat} {w w' : World} {v : Value} {ps : List (Td × Value)} (h : RowP B w v ps) (g : w.grownBy w' v.ownBlock) (hf : FreshAt B' w F) : FreshAt B' w' F := ⟨hf.1, at_grown h g hf.2 (by decide)⟩
theorem new_fresh (B : Nat) (w : World) (hB : B ≤ w.heap.size) :
    Calls Try.prog 9 #[] w fun e w' => ∃ F, e = .returned (.pointer (some ⟨F, 0, none⟩)) ∧ w.heap.size ≤ F ∧ FreshAt B w' F ∧ Kept w w' := by
  have hz48 : ∀ w, (zeroValue 48).run Try.prog w = .ok (.agg #[.nilFunc, .slice none 0 0, .int .i64 0, .slice none 0 0, .int .u32 0, .int .i64 0, .string ⟨#[]⟩, .bool false, .string ⟨#[]⟩, .int .i64 0]) w := fun _ => by kernel_rfl
  have HA := hid (at_new w #[nextV w.heap.size .line, .slice none 0 0, .int .i64 0, .slice none 0 0, .int .u32 0, .int .i64 0, .string ⟨#[]⟩, .bool false, .string ⟨#[]⟩, .int .i64 0] 48)
  go_enter Try.func9, Try.ntmps9
  go_wp2_with fail
  go_ret
  exact ⟨w.heap.size, rfl, Nat.le_refl _, ⟨hB, HA.out⟩, kept_alloc (kept_refl w) _⟩
/- What Held and Over say of a feed whose cells are known. -/
def Tells (w : World) (F : Nat) (σ : Fs) : Prop := ∃ p a c kv st left, At w F (fcells F p (.slice a (heldS σ) c) kv st left) 48 ∧ isOver p = overS σ
theorem tells_of {B F : Nat} {w : World} {f : Fd} (h : FeedAt B w F f) (hok : okF f) : Tells w F (absF f) := by
  obtain ⟨hv, kv, g⟩ := h
  obtain ⟨a, c, e, -⟩ := held_text g.2.2.1
  rw [e] at g
  refine ⟨f.p, a, c, kv, f.set, f.left, ?_, (over_abs f).symm⟩
  rw [← heldF hok]
  exact g.2.1
theorem tells_kept {F : Nat} {w w' : World} {σ : Fs} (h : Tells w F σ) (k : Kept w w') : Tells w' F σ := by
  obtain ⟨p, a, c, kv, st, left, h, ho⟩ := h
  exact ⟨p, a, c, kv, st, left, at_kept h k, ho⟩
theorem tells_fr {B F G : Nat} {w w' : World} {σ : Fs} (h : Tells w G σ) (g : Fr B F w w') (hn : G ≠ F) : Tells w' G σ := by
  obtain ⟨p, a, c, kv, st, left, h, ho⟩ := h
  exact ⟨p, a, c, kv, st, left, feed_fr h g hn, ho⟩
theorem tells_grown {B F : Nat} {w w' : World} {v : Value} {ps : List (Td × Value)} {σ : Fs} (h : RowP B w v ps) (g : w.grownBy w' v.ownBlock) (hf : Tells w F σ) : Tells w' F σ := by
  obtain ⟨p, a, c, kv, st, left, hA, ho⟩ := hf
  exact ⟨p, a, c, kv, st, left, at_grown h g hA (by decide), ho⟩
theorem held_tells {F : Nat} {w : World} {σ : Fs} (h : Tells w F σ) : Calls Try.prog 14 #[.pointer (some ⟨F, 0, none⟩)] w fun e w' => e = .returned (.int .i64 (heldS σ : Int)) ∧ w' = w := by
  obtain ⟨p, a, c, kv, st, left, hA, ho⟩ := h
  obtain ⟨c0, c1, c2, c3, c4, c5, c6, c7, c8, c9, cf⟩ := at_cells10 hA
  clear hA ho
  go_enter Try.func14, Try.ntmps14
  go_wp2_with fail
  go_ret
  exact ⟨rfl, rfl⟩
theorem over_tells {F : Nat} {w : World} {σ : Fs} (h : Tells w F σ) : Calls Try.prog 13 #[.pointer (some ⟨F, 0, none⟩)] w fun e w' => e = .returned (.bool (overS σ)) ∧ w' = w := by
  obtain ⟨p, a, c, kv, st, left, hA, ho⟩ := h
  rw [← ho]
  obtain ⟨c0, c1, c2, c3, c4, c5, c6, c7, c8, c9, cf⟩ := at_cells10 hA
  clear hA ho
  have hE := eq_func
  have hE2 := eq_nilf
  cases p using Pn.each <;> (
    simp only [nextV] at c0
    go_enter Try.func13, Try.ntmps13
    go_wp2_with fail
    go_ret
    exact ⟨rfl, rfl⟩)
theorem feed_at {B F : Nat} {w : World} {f : Fd} (h : FeedAt B w F f) : B ≤ F ∧ (∃ cs, At w F cs 48) ∧ ∀ s, w.cell? ⟨F, 0, none⟩ ≠ some (.string s) := by
  obtain ⟨hv, kv, g⟩ := h
  exact ⟨g.1, ⟨_, g.2.1⟩, fa_text g⟩
theorem feed_kept {B F : Nat} {w w' : World} {f : Fd} (h : FeedAt B w F f) (k : Kept w w') : FeedAt B w' F f := by
  obtain ⟨hv, kv, g⟩ := h
  exact ⟨hv, kv, fa_kept g k⟩
theorem feed_grown {B B' F : Nat} {w w' : World} {v : Value} {ps : List (Td × Value)} {f : Fd} (h : RowP B w v ps) (g : w.grownBy w' v.ownBlock) (hf : FeedAt B' w F f) : FeedAt B' w' F f := by
  obtain ⟨hv, kv, hf⟩ := hf
  exact ⟨hv, kv, fa_grown h g hf⟩
end Go.Proofs.Ytjlojkcdglocbaa
