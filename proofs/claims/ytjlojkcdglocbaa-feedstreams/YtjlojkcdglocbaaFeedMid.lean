/- The contracts of the feed's steps wrongTail, tailEnd, passData, data. The text has at most 2^32 bytes. -/
import Derived.Test.YtjlojkcdglocbaaFeedTail
namespace Go.Proofs.Ytjlojkcdglocbaa
open Go.ChangeShapes Go.WideShapes Go.ChangeAt Go.RowKit
set_option linter.unusedVariables false
set_option linter.unusedSimpArgs false

set_option maxRecDepth 100000 in
theorem wrong_more (B F : Nat) (f : Fd) (hok : okF f) (hp : f.p = .wrong) (s : ByteArray) (h0 : s.data.toList ≠ []) (hx : (10 : UInt8) ∉ s.data.toList) (hix : ix s = -1) (w : World) (hf : FeedAt B w F f) :
    Calls Try.prog 58 #[.pointer (some ⟨F, 0, none⟩), .string s] w (StepC B F f s w) := by
  have hz := zero26
  have HC := hid (fun w => cut_no s hix w)
  have HF := hid hf
  have HS : Hid (StepOk f s.data.toList [] none' f) := so_wrong_more hok hp h0 hx
  clear hok hp hx hix hf h0
  go_enter Try.func58, Try.ntmps58
  go_wp2_with fail
  refine (HC.out _).mono ?_
  rintro e w1 ⟨rfl, hw⟩
  rw [hw]; clear hw w1
  go_wp2_with fail
  refine bodyPost_ret (v := .tuple #[.string ⟨#[]⟩, .agg #[.int .i64 0, .slice none 0 0, .int .u32 0, .int .i64 0, .string ⟨#[]⟩, .bool false, .string ⟨#[]⟩]]) (by simp [results, Try.results58, go_sem]) rfl ?_
  obtain ⟨hv, kv, g⟩ := HF.out
  exact ⟨⟨#[]⟩, none', f, .slice none 0 0, rfl, HS.out, ⟨hv, kv, fa_alloc g _⟩, keys_nil _, fr_alloc (fr_refl B F w) _⟩
set_option maxRecDepth 100000 in
theorem wrong_end (B F : Nat) (f : Fd) (hok : okF f) (hp : f.p = .wrong) (s : ByteArray) (x r : List UInt8) (hs : s.data.toList = x ++ 10 :: r) (hx : (10 : UInt8) ∉ x) (hix : ix s = (x.length : Int)) (hsz : s.size ≤ 4294967296) (w : World) (hf : FeedAt B w F f) :
    Calls Try.prog 58 #[.pointer (some ⟨F, 0, none⟩), .string s] w (StepC B F f s w) := by
  have hz := zero26
  obtain ⟨q1, q2, -⟩ := split_at hs
  have HC := hid (fun w => cut_at10 s _ hix q2 hsz w)
  have HS : Hid (StepOk f s.data.toList (s.extract (x.length + 1) s.size).data.toList ⟨bad rChunk, mt⟩ { f with p := .line, h := [], set := zc }) := by
    show StepOk _ _ _ _ _
    rw [q1, hs]
    exact so_wrong_end hok hp hx
  obtain ⟨hv, kv, g⟩ := hf
  have HX : Hid (At (w.alloc (.cells #[.int .i64 0, .slice none 0 0, .int .u32 0, .int .i64 0, .string ⟨#[]⟩, .bool false, .string ⟨#[]⟩] 38)).drew w.heap.size #[.int .i64 0, .slice none 0 0, .int .u32 0, .int .i64 0, .string ⟨#[]⟩, .bool false, .string ⟨#[]⟩] 38) := at_drew (at_new _ _ _)
  have HN : Hid (w.heap.size ≠ F) := by have := at_lt g.2.1; show _ ≠ _; omega
  have HY : Hid (∀ (u : World) (a0 a1 a2 a3 a4 a5 a6 : Value), Fr B F w u → Fr B F w (set7 u w.heap.size a0 a1 a2 a3 a4 a5 a6)) := fun u a0 a1 a2 a3 a4 a5 a6 h => fr_set7 h (Nat.le_refl _) _ _ _ _ _ _ _
  have HR : Hid (Fr B F w (w.alloc (.cells #[.int .i64 0, .slice none 0 0, .int .u32 0, .int .i64 0, .string ⟨#[]⟩, .bool false, .string ⟨#[]⟩] 38)).drew) := fr_drew (fr_alloc (fr_refl B F w) _)
  have HG : Hid (FA B F (w.alloc (.cells #[.int .i64 0, .slice none 0 0, .int .u32 0, .int .i64 0, .string ⟨#[]⟩, .bool false, .string ⟨#[]⟩] 38)).drew f.p hv kv f.set f.left f.h) := fa_drew (fa_alloc g _)
  clear hok hp hx hix g hs q1 q2 hsz
  go_enter Try.func58, Try.ntmps58
  go_wp2_with fail
  refine (HC.out _).mono ?_
  rintro e w1 ⟨rfl, hw⟩
  rw [hw]; clear hw w1
  generalize (w.alloc (.cells #[.int .i64 0, .slice none 0 0, .int .u32 0, .int .i64 0, .string ⟨#[]⟩, .bool false, .string ⟨#[]⟩] 38)).drew = wa at *
  generalize w.heap.size = X at *
  go_wp2_with fail
  refine (forget_any B F _ _ _ _ _ _ _ HG.out).mono ?_
  rintro e w1 ⟨rfl, g1, t1⟩
  have HX1 := hid (at_turn HX.out t1 HN.out)
  have HR1 := hid (fr_trans HR.out (fr_turn (B := B) t1))
  have HG1 := hid g1
  clear g1 t1 HG HX HR
  go_wp2_with fail
  refine (feedbad_any _ _).mono ?_
  rintro e w2 ⟨rfl, hk⟩
  have HX2 := hid (at_kept HX1.out hk)
  have HR2 := hid (fr_trans HR1.out (fr_kept (B := B) (F := F) hk))
  have HG2 := hid (fa_kept HG1.out hk)
  clear hk HX1 HR1 HG1
  obtain ⟨d0, d1, d2, d3, d4, d5, d6, df⟩ := at_cells7 HX2.out
  go_wp2_with fail
  refine bodyPost_ret (resT rfl _ rfl rfl (at_set7 HX2.out _ _ _ _ _ _ _)) rfl ?_
  exact ⟨_, ⟨bad rChunk, mt⟩, _, .slice none 0 0, rfl, HS.out, ⟨_, _, fa_res HG2.out HX2.out _ _ _ _ _ _ _⟩, keys_nil _, HY.out _ _ _ _ _ _ _ _ HR2.out⟩
end Go.Proofs.Ytjlojkcdglocbaa
