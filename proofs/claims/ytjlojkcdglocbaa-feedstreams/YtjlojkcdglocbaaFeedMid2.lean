/- The contracts of the feed's steps tailEnd, passData, data. The text has at most 2^32 bytes. -/
import Derived.Test.YtjlojkcdglocbaaFeedMid
namespace Go.Proofs.Ytjlojkcdglocbaa
open Go.ChangeShapes Go.WideShapes Go.ChangeAt Go.RowKit
set_option linter.unusedVariables false
set_option linter.unusedSimpArgs false

theorem keys_drew {w : World} {v : Value} {K : List ByteArray} (h : Keys w v K) : Keys w.drew v K := h
set_option maxHeartbeats 1600000 in
set_option maxRecDepth 100000 in
theorem end_lf (B F : Nat) (f : Fd) (hok : okF f) (hp : f.p = .tailEnd) (s : ByteArray) (r : List UInt8) (hs : s.data.toList = 10 :: r) (w : World) (hf : FeedAt B w F f) :
    Calls Try.prog 59 #[.pointer (some ⟨F, 0, none⟩), .string s] w (StepC B F f s w) := by
  obtain ⟨hv, kv, g⟩ := hf
  obtain ⟨c0, c1, c2, c3, c4, c5, c6, c7, c8, c9, cf⟩ := at_cells10 g.2.1
  have hl := at_lt g.2.1
  have hz := zero26
  have hi := first_run s 10 r hs
  have h1 : (((10 : UInt8).toNat : Int) != 10) = false := by decide
  have h2 : (1 : Int) ≤ (s.size : Int) := by rw [size_list, hs]; simp; omega
  have HS : Hid (StepOk f s.data.toList (s.extract 1 s.size).data.toList ⟨f.set, ba f.h⟩ { f with p := .line, h := [], set := zc }) := by
    show StepOk _ _ _ _ _
    rw [rest_list s 10 r hs, hs]
    exact so_end hok hp
  obtain ⟨ka, km, kc, rfl⟩ := keys_slice g.2.2.2
  have hcv : ∀ o o2, ∃ a cap, hv = .slice a f.h.length cap ∧ (convert 43 9 (.slice a f.h.length cap)).run Try.prog ((w.alloc o).alloc o2) = .ok (.string (ba f.h)) ((w.alloc o).alloc o2) := fun o o2 => held_text (fa_alloc (fa_alloc g o) o2).2.2.1
  obtain ⟨ha, hc, rfl, -⟩ := hcv (.cells #[] 0) (.cells #[] 0)
  have hcv : ∀ o o2, (convert 43 9 (.slice ha f.h.length hc)).run Try.prog ((w.alloc o).alloc o2) = .ok (.string (ba f.h)) ((w.alloc o).alloc o2) := fun o o2 => by
    obtain ⟨a, c, e, h⟩ := hcv o o2
    cases e
    exact h
  have HG : Hid (FA B F ((w.alloc (.cells #[.int .i64 0, .slice none 0 0, .int .u32 0, .int .i64 0, .string ⟨#[]⟩, .bool false, .string ⟨#[]⟩] 38)).alloc (.cells #[.int .i64 f.set.kind, .slice ka km kc, .int .u32 f.set.flags, .int .i64 f.set.exp, .string (ba f.h), .bool f.set.quiet, .string f.set.reply] 38)) f.p (.slice ha f.h.length hc) (.slice ka km kc) f.set f.left f.h) := fa_alloc (fa_alloc g _) _
  have HX : Hid (At ((w.alloc (.cells #[.int .i64 0, .slice none 0 0, .int .u32 0, .int .i64 0, .string ⟨#[]⟩, .bool false, .string ⟨#[]⟩] 38)).alloc (.cells #[.int .i64 f.set.kind, .slice ka km kc, .int .u32 f.set.flags, .int .i64 f.set.exp, .string (ba f.h), .bool f.set.quiet, .string f.set.reply] 38)) w.heap.size #[.int .i64 0, .slice none 0 0, .int .u32 0, .int .i64 0, .string ⟨#[]⟩, .bool false, .string ⟨#[]⟩] 38) := at_alloc (at_new _ _ _) _
  have HC : Hid (At ((w.alloc (.cells #[.int .i64 0, .slice none 0 0, .int .u32 0, .int .i64 0, .string ⟨#[]⟩, .bool false, .string ⟨#[]⟩] 38)).alloc (.cells #[.int .i64 f.set.kind, .slice ka km kc, .int .u32 f.set.flags, .int .i64 f.set.exp, .string (ba f.h), .bool f.set.quiet, .string f.set.reply] 38)) (w.heap.size + 1) #[.int .i64 f.set.kind, .slice ka km kc, .int .u32 f.set.flags, .int .i64 f.set.exp, .string (ba f.h), .bool f.set.quiet, .string f.set.reply] 38) := by
    have := at_new (w.alloc (.cells #[.int .i64 0, .slice none 0 0, .int .u32 0, .int .i64 0, .string ⟨#[]⟩, .bool false, .string ⟨#[]⟩] 38)) #[.int .i64 f.set.kind, .slice ka km kc, .int .u32 f.set.flags, .int .i64 f.set.exp, .string (ba f.h), .bool f.set.quiet, .string f.set.reply] 38
    rw [World.size_alloc] at this
    exact this
  have HR : Hid (Fr B F w ((w.alloc (.cells #[.int .i64 0, .slice none 0 0, .int .u32 0, .int .i64 0, .string ⟨#[]⟩, .bool false, .string ⟨#[]⟩] 38)).alloc (.cells #[.int .i64 f.set.kind, .slice ka km kc, .int .u32 f.set.flags, .int .i64 f.set.exp, .string (ba f.h), .bool f.set.quiet, .string f.set.reply] 38))) := fr_alloc (fr_alloc (fr_refl B F w) _) _
  have HY : Hid (∀ (u : World) (a0 a1 a2 a3 a4 a5 a6 : Value), Fr B F w u → Fr B F w (set7 u w.heap.size a0 a1 a2 a3 a4 a5 a6)) := fun u a0 a1 a2 a3 a4 a5 a6 h => fr_set7 h (Nat.le_refl _) _ _ _ _ _ _ _
  have HN : Hid (w.heap.size ≠ F ∧ w.heap.size + 1 ≠ F) := by show _ ∧ _; omega
  clear g hs hok hp
  go_enter Try.func59, Try.ntmps59
  go_wp2_with fail
  clear c0 c1 c2 c3 c4 c5 c6 c7 c8 c9 cf hcv hi h1 hl
  generalize (w.alloc (.cells #[.int .i64 0, .slice none 0 0, .int .u32 0, .int .i64 0, .string ⟨#[]⟩, .bool false, .string ⟨#[]⟩] 38)).alloc (.cells #[.int .i64 f.set.kind, .slice ka km kc, .int .u32 f.set.flags, .int .i64 f.set.exp, .string (ba f.h), .bool f.set.quiet, .string f.set.reply] 38) = wa at *
  generalize w.heap.size + 1 = X6 at *
  generalize w.heap.size = X at *
  refine (forget_any B F _ _ _ _ _ _ _ HG.out).mono ?_
  rintro e w1 ⟨rfl, g1, t1⟩
  have HX1 := hid (at_turn HX.out t1 HN.out.1)
  have HC1 := hid (at_turn HC.out t1 HN.out.2)
  have HR1 := hid (fr_trans HR.out (fr_turn (B := B) t1))
  have HK1 : Hid (Keys w1 (.slice ka km kc) f.set.keys) := keys_fr HG.out.2.2.2 (fr_turn (B := B) t1) (fa_text HG.out)
  have HG1 := hid g1
  clear g1 t1 HG HX HR HC
  obtain ⟨d0, d1, d2, d3, d4, d5, d6, df⟩ := at_cells7 HX1.out
  obtain ⟨e0, e1, e2, e3, e4, e5, e6, ef⟩ := at_cells7 HC1.out
  go_wp2_with fail
  have HA9 : Hid (At (set7 w1 X (.int .i64 f.set.kind) (.slice ka km kc) (.int .u32 f.set.flags) (.int .i64 f.set.exp) (.string (ba f.h)) (.bool f.set.quiet) (.string f.set.reply)).drew X #[.int .i64 f.set.kind, .slice ka km kc, .int .u32 f.set.flags, .int .i64 f.set.exp, .string (ba f.h), .bool f.set.quiet, .string f.set.reply] 38) := at_drew (at_set7 HX1.out _ _ _ _ _ _ _)
  have HG9 : Hid (FeedAt B (set7 w1 X (.int .i64 f.set.kind) (.slice ka km kc) (.int .u32 f.set.flags) (.int .i64 f.set.exp) (.string (ba f.h)) (.bool f.set.quiet) (.string f.set.reply)).drew F { f with p := .line, h := [], set := zc }) := ⟨_, _, fa_drew (fa_res HG1.out HX1.out _ _ _ _ _ _ _)⟩
  have HK9 : Hid (Keys (set7 w1 X (.int .i64 f.set.kind) (.slice ka km kc) (.int .u32 f.set.flags) (.int .i64 f.set.exp) (.string (ba f.h)) (.bool f.set.quiet) (.string f.set.reply)).drew (.slice ka km kc) f.set.keys) := keys_drew (keys_set7' HK1.out HX1.out _ _ _ _ _ _ _)
  have HR9 : Hid (Fr B F w (set7 w1 X (.int .i64 f.set.kind) (.slice ka km kc) (.int .u32 f.set.flags) (.int .i64 f.set.exp) (.string (ba f.h)) (.bool f.set.quiet) (.string f.set.reply)).drew) := fr_drew (HY.out _ _ _ _ _ _ _ _ HR1.out)
  clear HX1 HC1 HG1 HK1 HR1 HY
  go_region
  show Exit.then _ _ Exit.normal _ (set7 w1 X (.int .i64 f.set.kind) (.slice ka km kc) (.int .u32 f.set.flags) (.int .i64 f.set.exp) (.string (ba f.h)) (.bool f.set.quiet) (.string f.set.reply)).drew
  generalize (set7 w1 X (.int .i64 f.set.kind) (.slice ka km kc) (.int .u32 f.set.flags) (.int .i64 f.set.exp) (.string (ba f.h)) (.bool f.set.quiet) (.string f.set.reply)).drew = w9 at *
  clear d0 d1 d2 d3 d4 d5 d6 df e0 e1 e2 e3 e4 e5 e6 ef h2
  go_wp2_with fail
  refine bodyPost_ret (resT rfl _ rfl rfl HA9.out) rfl ?_
  exact ⟨_, ⟨f.set, ba f.h⟩, _, .slice ka km kc, rfl, HS.out, HG9.out, HK9.out, HR9.out⟩
end Go.Proofs.Ytjlojkcdglocbaa
