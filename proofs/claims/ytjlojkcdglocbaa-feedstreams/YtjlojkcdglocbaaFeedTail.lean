/- The contracts of the feed's small steps: tail, tailEnd, wrongTail, passLine, cutData, passData, data. The text has at most 2^32 bytes. -/
import Derived.Test.YtjlojkcdglocbaaFeedState
import Derived.Laws.EntriesVeiled
namespace Go.Proofs.Ytjlojkcdglocbaa
open Go.ChangeShapes Go.WideShapes Go.ChangeAt Go.RowKit
set_option linter.unusedVariables false
set_option linter.unusedSimpArgs false

def StepC (B F : Nat) (f : Fd) (s : ByteArray) (w : World) (e : Ending) (w' : World) : Prop :=
  ∃ (r : ByteArray) (t : Td) (f' : Fd) (kv : Value), e = .returned (.tuple #[.string r, .agg #[.int .i64 t.c.kind, kv, .int .u32 t.c.flags, .int .i64 t.c.exp, .string t.body, .bool t.c.quiet, .string t.c.reply]]) ∧ StepOk f s.data.toList r.data.toList t f' ∧ FeedAt B w' F f' ∧ Keys w' kv t.c.keys ∧ Fr B F w w'
theorem resT {fn : Func} {p u : Tmp} (h : fn.results = #[.tmp u, .cell p 38]) (tmps : Array Value) {w : World} {X T : Nat} {v0 v1 v2 v3 v4 v5 v6 r : Value} (hp : tmps.getD p undef = .pointer (some ⟨X, 0, none⟩)) (hu : tmps.getD u undef = r) (hA : At w X #[v0, v1, v2, v3, v4, v5, v6] T) :
    (results fn tmps).run Try.prog w = .ok (.tuple #[r, .agg #[v0, v1, v2, v3, v4, v5, v6]]) w := by
  obtain ⟨c0, c1, c2, c3, c4, c5, c6, -⟩ := at_cells7 hA
  have hp' : tmps[p]?.getD undef = .pointer (some ⟨X, 0, none⟩) := by simpa using hp
  have hu' : tmps[u]?.getD undef = r := by simpa using hu
  simp [results, h, go_sem, hp', hu', c0, c1, c2, c3, c4, c5, c6]
theorem first_run (s : ByteArray) (b : UInt8) (r : List UInt8) (h : s.data.toList = b :: r) (w : World) : (Instr.index 9 (.string s) (.int .i64 0)).run Try.prog w = .ok (.int .u8 (b.toNat : Int)) w := by
  obtain ⟨⟨l⟩⟩ := s
  replace h : l = b :: r := h
  subst h
  rw [run_index_string w 9 _ .i64 0 Try.underlying9, dif_pos ⟨by omega, by rw [size_list]; simp⟩]
  rfl
theorem rest_list (s : ByteArray) (b : UInt8) (r : List UInt8) (h : s.data.toList = b :: r) : (s.extract 1 s.size).data.toList = r := by
  rw [ex_list, size_list, h]
  simp
/- The head of every walk: the feed's cells. -/
theorem fr_turn {B F : Nat} {w w' : World} (h : Turn F w w') : Fr B F w w' := ⟨h.1, h.2.1, h.2.2.1, fun k hk hn _ => h.2.2.2 k hk hn⟩
theorem fa_res {B F X : Nat} {w : World} {p : Pn} {hv kv : Value} {st : Cm} {left : Nat} {h : List UInt8} (g : FA B F w p hv kv st left h) {z : Int} {b1 b2 b3 b4 b5 b6 : Value} (hA : At w X #[.int .i64 z, b1, b2, b3, b4, b5, b6] 38) (a0 a1 a2 a3 a4 a5 a6 : Value) : FA B F (set7 w X a0 a1 a2 a3 a4 a5 a6) p hv kv st left h := by
  refine ⟨g.1, at_other7 g.2.1 (at_ne g.2.1 hA (by decide)) _ _ _ _ _ _ _, ⟨own_kept g.2.2.1.1 (fun b hb => ?_), g.2.2.1.2⟩, keys_set7' g.2.2.2 hA _ _ _ _ _ _ _⟩
  have hn : b ≠ X := by
    rintro rfl
    obtain ⟨-, n, hc⟩ := held_cell g.2.2.1 hb
    rw [at_cell hA 0] at hc
    injection hc with hc
    cases hc
  unfold set7
  iterate 7 rw [Below.heap_setCell _ _ _ _ (by exact hn)]
set_option maxRecDepth 100000 in
theorem tail_cr (B F : Nat) (f : Fd) (hok : okF f) (hp : f.p = .tail) (s : ByteArray) (r : List UInt8) (hs : s.data.toList = 13 :: r) (w : World) (hf : FeedAt B w F f) :
    Calls Try.prog 48 #[.pointer (some ⟨F, 0, none⟩), .string s] w (StepC B F f s w) := by
  obtain ⟨hv, kv, g⟩ := hf
  rw [hp] at g
  obtain ⟨c0, c1, c2, c3, c4, c5, c6, c7, c8, c9, cf⟩ := at_cells10 g.2.1
  have hl := at_lt g.2.1
  have hz := zero26
  have hi := first_run s 13 r hs
  have h1 : (((13 : UInt8).toNat : Int) != 13) = false := by decide
  have h2 : (1 : Int) ≤ (s.size : Int) := by rw [size_list, hs]; simp; omega
  have HF : Hid (FA B F (w.setCell ⟨F, 0, none⟩ (nextV F .tailEnd)) .tailEnd hv kv f.set f.left f.h) := fa_next g .tailEnd
  have HR : Hid (Fr B F w (w.setCell ⟨F, 0, none⟩ (nextV F .tailEnd))) := fr_set (fr_refl B F w) _ _
  have HS : Hid (StepOk f s.data.toList (s.extract 1 s.size).data.toList none' { f with p := .tailEnd }) := by
    show StepOk _ _ _ _ _
    rw [rest_list s 13 r hs, hs]
    exact so_tail_cr hok hp
  clear g hs hok hp
  go_enter Try.func48, Try.ntmps48
  go_wp2_with fail
  refine bodyPost_ret (v := .tuple #[.string (s.extract 1 s.size), .agg #[.int .i64 0, .slice none 0 0, .int .u32 0, .int .i64 0, .string ⟨#[]⟩, .bool false, .string ⟨#[]⟩]]) (by simp [results, Try.results48, go_sem]) rfl ?_
  exact ⟨_, none', _, .slice none 0 0, rfl, HS.out, ⟨hv, kv, fa_alloc HF.out _⟩, keys_nil _, fr_alloc HR.out _⟩
set_option maxRecDepth 100000 in
theorem tail_wrong (B F : Nat) (f : Fd) (hok : okF f) (hp : f.p = .tail) (s : ByteArray) (b : UInt8) (r : List UInt8) (hs : s.data.toList = b :: r) (hb : b ≠ 13) (w : World) (hf : FeedAt B w F f) :
    Calls Try.prog 48 #[.pointer (some ⟨F, 0, none⟩), .string s] w (StepC B F f s w) := by
  obtain ⟨hv, kv, g⟩ := hf
  rw [hp] at g
  obtain ⟨c0, c1, c2, c3, c4, c5, c6, c7, c8, c9, cf⟩ := at_cells10 g.2.1
  have hl := at_lt g.2.1
  have hz := zero26
  have hi := first_run s b r hs
  have h1 : ((b.toNat : Int) != 13) = true := by
    rw [bne_iff_ne]
    intro e
    exact hb (UInt8.toNat_inj.1 (by show b.toNat = 13; omega))
  have HF : Hid (FA B F (w.setCell ⟨F, 0, none⟩ (nextV F .wrong)) .wrong hv kv f.set f.left f.h) := fa_next g .wrong
  have HR : Hid (Fr B F w (w.setCell ⟨F, 0, none⟩ (nextV F .wrong))) := fr_set (fr_refl B F w) _ _
  have HS : Hid (StepOk f s.data.toList s.data.toList none' { f with p := .wrong }) := by
    show StepOk _ _ _ _ _
    rw [hs]
    exact so_tail_wrong hok hp hb
  clear g hs hok hp hb
  go_enter Try.func48, Try.ntmps48
  go_wp2_with fail
  refine bodyPost_ret (v := .tuple #[.string s, .agg #[.int .i64 0, .slice none 0 0, .int .u32 0, .int .i64 0, .string ⟨#[]⟩, .bool false, .string ⟨#[]⟩]]) (by simp [results, Try.results48, go_sem]) rfl ?_
  exact ⟨_, none', _, .slice none 0 0, rfl, HS.out, ⟨hv, kv, fa_alloc HF.out _⟩, keys_nil _, fr_alloc HR.out _⟩
set_option maxRecDepth 100000 in
theorem end_wrong (B F : Nat) (f : Fd) (hok : okF f) (hp : f.p = .tailEnd) (s : ByteArray) (b : UInt8) (r : List UInt8) (hs : s.data.toList = b :: r) (hb : b ≠ 10) (w : World) (hf : FeedAt B w F f) :
    Calls Try.prog 59 #[.pointer (some ⟨F, 0, none⟩), .string s] w (StepC B F f s w) := by
  obtain ⟨hv, kv, g⟩ := hf
  rw [hp] at g
  obtain ⟨c0, c1, c2, c3, c4, c5, c6, c7, c8, c9, cf⟩ := at_cells10 g.2.1
  have hl := at_lt g.2.1
  have hz := zero26
  have hi := first_run s b r hs
  have h1 : ((b.toNat : Int) != 10) = true := by
    rw [bne_iff_ne]
    intro e
    exact hb (UInt8.toNat_inj.1 (by show b.toNat = 10; omega))
  have HF : Hid (FA B F (w.setCell ⟨F, 0, none⟩ (nextV F .wrong)) .wrong hv kv f.set f.left f.h) := fa_next g .wrong
  have HR : Hid (Fr B F w (w.setCell ⟨F, 0, none⟩ (nextV F .wrong))) := fr_set (fr_refl B F w) _ _
  have HS : Hid (StepOk f s.data.toList s.data.toList none' { f with p := .wrong }) := by
    show StepOk _ _ _ _ _
    rw [hs]
    exact so_end_wrong hok hp hb
  clear g hs hok hp hb
  go_enter Try.func59, Try.ntmps59
  go_wp2_with fail
  refine bodyPost_ret (v := .tuple #[.string s, .agg #[.int .i64 0, .slice none 0 0, .int .u32 0, .int .i64 0, .string ⟨#[]⟩, .bool false, .string ⟨#[]⟩]]) (by simp [results, Try.results59, go_sem]) rfl ?_
  exact ⟨_, none', _, .slice none 0 0, rfl, HS.out, ⟨hv, kv, fa_alloc HF.out _⟩, keys_nil _, fr_alloc HR.out _⟩
set_option maxRecDepth 100000 in
theorem rest_more (B F : Nat) (f : Fd) (hok : okF f) (hp : f.p = .passLine) (s : ByteArray) (h0 : s.data.toList ≠ []) (hx : (10 : UInt8) ∉ s.data.toList) (hix : ix s = -1) (w : World) (hf : FeedAt B w F f) :
    Calls Try.prog 28 #[.pointer (some ⟨F, 0, none⟩), .string s] w (StepC B F f s w) := by
  have hz := zero26
  have HC := hid (fun w => cut_no s hix w)
  have HF := hid hf
  have HS : Hid (StepOk f s.data.toList [] none' f) := so_rest_more hok hp h0 hx
  clear hok hp hx hix hf h0
  go_enter Try.func28, Try.ntmps28
  go_wp2_with fail
  refine (HC.out _).mono ?_
  rintro e w1 ⟨rfl, hw⟩
  rw [hw]; clear hw w1
  go_wp2_with fail
  refine bodyPost_ret (v := .tuple #[.string ⟨#[]⟩, .agg #[.int .i64 0, .slice none 0 0, .int .u32 0, .int .i64 0, .string ⟨#[]⟩, .bool false, .string ⟨#[]⟩]]) (by simp [results, Try.results28, go_sem]) rfl ?_
  obtain ⟨hv, kv, g⟩ := HF.out
  exact ⟨⟨#[]⟩, none', f, .slice none 0 0, rfl, HS.out, ⟨hv, kv, fa_alloc g _⟩, keys_nil _, fr_alloc (fr_refl B F w) _⟩
theorem split_at {s : ByteArray} {x r : List UInt8} (hs : s.data.toList = x ++ 10 :: r) : (s.extract (x.length + 1) s.size).data.toList = r ∧ x.length + 1 ≤ s.size ∧ (s.extract 0 x.length).data.toList = x := by
  rw [ex_list, ex_list, size_list, hs]
  refine ⟨?_, by simp, by simp⟩
  rw [List.drop_append, List.drop_eq_nil_of_le (by omega)]
  simp
  exact List.take_of_length_le (by omega)
set_option maxRecDepth 100000 in
theorem rest_end (B F : Nat) (f : Fd) (hok : okF f) (hp : f.p = .passLine) (s : ByteArray) (x r : List UInt8) (hs : s.data.toList = x ++ 10 :: r) (hx : (10 : UInt8) ∉ x) (hix : ix s = (x.length : Int)) (hsz : s.size ≤ 4294967296) (w : World) (hf : FeedAt B w F f) :
    Calls Try.prog 28 #[.pointer (some ⟨F, 0, none⟩), .string s] w (StepC B F f s w) := by
  have hz := zero26
  obtain ⟨q1, q2, -⟩ := split_at hs
  have HC := hid (fun w => cut_at10 s _ hix q2 hsz w)
  have HS : Hid (StepOk f s.data.toList (s.extract (x.length + 1) s.size).data.toList none' { f with p := .line }) := by
    show StepOk _ _ _ _ _
    rw [q1, hs]
    exact so_rest_end hok hp hx
  obtain ⟨hv, kv, g⟩ := hf
  rw [hp] at g
  obtain ⟨c0, c1, c2, c3, c4, c5, c6, c7, c8, c9, cf⟩ := at_cells10 g.2.1
  have hl := at_lt g.2.1
  have HF : Hid (FA B F (w.setCell ⟨F, 0, none⟩ (nextV F .line)) .line hv kv f.set f.left f.h) := fa_next g .line
  have HR : Hid (Fr B F w (w.setCell ⟨F, 0, none⟩ (nextV F .line))) := fr_set (fr_refl B F w) _ _
  clear hok hp hx hix g hs q1 q2 hsz
  go_enter Try.func28, Try.ntmps28
  go_wp2_with fail
  refine (HC.out _).mono ?_
  rintro e w1 ⟨rfl, hw⟩
  rw [hw]; clear hw w1
  go_wp2_with fail
  refine bodyPost_ret (v := .tuple #[.string (s.extract (x.length + 1) s.size), .agg #[.int .i64 0, .slice none 0 0, .int .u32 0, .int .i64 0, .string ⟨#[]⟩, .bool false, .string ⟨#[]⟩]]) (by simp [results, Try.results28, go_sem]) rfl ?_
  exact ⟨_, none', _, .slice none 0 0, rfl, HS.out, ⟨hv, kv, fa_drew (fa_alloc HF.out _)⟩, keys_nil _, fr_drew (fr_alloc HR.out _)⟩
set_option maxRecDepth 100000 in
theorem forget_any (B F : Nat) (p : Pn) (hv kv : Value) (st : Cm) (left : Nat) (h : List UInt8) (w : World) (g : FA B F w p hv kv st left h) :
    Calls Try.prog 64 #[.pointer (some ⟨F, 0, none⟩)] w fun e w' => e = .returned (.tuple #[]) ∧ FA B F w' .line (.slice none 0 0) (.slice none 0 0) zc left [] ∧ Turn F w w' := by
  obtain ⟨c0, c1, c2, c3, c4, c5, c6, c7, c8, c9, cf⟩ := at_cells10 g.2.1
  have hz := zero26
  have HF : Hid (FA B F (((setF7 w F (.int .i64 0) (.slice none 0 0) (.int .u32 0) (.int .i64 0) (.string ⟨#[]⟩) (.bool false) (.string ⟨#[]⟩)).setCell ⟨F, 1, none⟩ (.slice none 0 0)).setCell ⟨F, 0, none⟩ (nextV F .line)) .line (.slice none 0 0) (.slice none 0 0) zc left []) := fa_next (fa_drop (fa_put g zc _ (keys_nil w))) .line
  have HR : Hid (Turn F w (((setF7 w F (.int .i64 0) (.slice none 0 0) (.int .u32 0) (.int .i64 0) (.string ⟨#[]⟩) (.bool false) (.string ⟨#[]⟩)).setCell ⟨F, 1, none⟩ (.slice none 0 0)).setCell ⟨F, 0, none⟩ (nextV F .line))) :=
    turn_set (turn_set (turn_set (turn_set (turn_set (turn_set (turn_set (turn_set (turn_set (Turn.refl F w) _ _) _ _) _ _) _ _) _ _) _ _) _ _) _ _) _ _
  clear g
  go_enter Try.func64, Try.ntmps64
  go_wp2_with fail
  refine bodyPost_end (v := .tuple #[]) (by simp [results, Try.results64, go_sem]) rfl ?_
  exact ⟨rfl, HF.out, HR.out⟩
theorem feedbad_any (r : ByteArray) (w : World) :
    Calls Try.prog 29 #[.string r] w fun e w' => e = .returned (.agg #[.int .i64 8, .slice none 0 0, .int .u32 0, .int .i64 0, .string ⟨#[]⟩, .bool false, .string r]) ∧ Kept w w' := by
  have hz := zero26
  have HA : Hid (At (w.alloc (.cells #[.int .i64 8, .slice none 0 0, .int .u32 0, .int .i64 0, .string ⟨#[]⟩, .bool false, .string r] 38)) w.heap.size #[.int .i64 8, .slice none 0 0, .int .u32 0, .int .i64 0, .string ⟨#[]⟩, .bool false, .string r] 38) := at_new _ _ _
  have HK : Hid (Kept w (w.alloc (.cells #[.int .i64 8, .slice none 0 0, .int .u32 0, .int .i64 0, .string ⟨#[]⟩, .bool false, .string r] 38))) := kept_alloc (kept_refl w) _
  go_enter Try.func29, Try.ntmps29
  go_wp2
  refine bodyPost_ret (res1 rfl _ rfl HA.out) rfl ?_
  exact ⟨rfl, HK.out⟩
set_option maxRecDepth 100000 in
theorem cutData_any (B F : Nat) (p : Pn) (hv kv : Value) (st : Cm) (left : Nat) (h : List UInt8) (s : ByteArray) (n : Nat) (hn : n = min left s.size) (hl : left ≤ 4294967295) (hs : s.size ≤ 4294967296) (w : World) (g : FA B F w p hv kv st left h) :
    Calls Try.prog 47 #[.pointer (some ⟨F, 0, none⟩), .string s] w fun e w' => e = .returned (.tuple #[.string (s.extract 0 n), .string (s.extract n s.size)]) ∧ FA B F w' p hv kv st (left - n) h ∧ Turn F w w' := by
  obtain ⟨c0, c1, c2, c3, c4, c5, c6, c7, c8, c9, cf⟩ := at_cells10 g.2.1
  have HF : Hid (FA B F (w.setCell ⟨F, 9, none⟩ (.int .i64 ((left - n : Nat) : Int))) p hv kv st (left - n) h) := fa_left g (left - n)
  have HR : Hid (Turn F w (w.setCell ⟨F, 9, none⟩ (.int .i64 ((left - n : Nat) : Int)))) := turn_set (Turn.refl F w) _ _
  have hm : min (left : Int) (s.size : Int) = (n : Int) := by omega
  have hd : (left : Int) - (n : Int) = ((left - n : Nat) : Int) := by omega
  have q1 : (0 : Int) ≤ (n : Int) := by omega
  have q2 : (n : Int) ≤ (s.size : Int) := by omega
  clear g
  go_enter Try.func47, Try.ntmps47
  go_wp2_with fail
  rw [← hn, hd]
  clear hm hd hn hl hs c0 c1 c2 c3 c4 c5 c6 c7 c8 c9 cf
  go_region
  go_wp2_with fail
  go_ret2
  exact ⟨rfl, HF.out, HR.out⟩
end Go.Proofs.Ytjlojkcdglocbaa
