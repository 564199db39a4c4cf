/- The contracts of the feed's steps passData, data. The text has at most 2^32 bytes. -/
import Derived.Test.YtjlojkcdglocbaaFeedMid2
namespace Go.Proofs.Ytjlojkcdglocbaa
open Go.ChangeShapes Go.WideShapes Go.ChangeAt Go.RowKit
set_option linter.unusedVariables false
set_option linter.unusedSimpArgs false

theorem cut_parts (s : ByteArray) (n : Nat) (hn : n ≤ s.size) : (s.extract 0 n).data.toList ++ (s.extract n s.size).data.toList = s.data.toList ∧ (s.extract 0 n).data.toList.length = n ∧ (s.extract n s.size).data.toList.length = s.size - n := by
  rw [ex_list, ex_list]
  have hl := size_list s
  refine ⟨?_, by simp; omega, by simp⟩
  rw [List.take_of_length_le (l := s.data.toList.drop n) (by simp)]
  simp
set_option maxHeartbeats 1600000 in
set_option maxRecDepth 100000 in
theorem pass_on (B F : Nat) (f : Fd) (hok : okF f) (hp : f.p = .passData) (s : ByteArray) (n : Nat) (hn : n = min f.left s.size) (h0 : s.data.toList ≠ []) (hsz : s.size ≤ 4294967296) (hcase : f.left - n ≠ 0) (w : World) (hf : FeedAt B w F f) :
    Calls Try.prog 35 #[.pointer (some ⟨F, 0, none⟩), .string s] w (StepC B F f s w) := by
  have hz := zero26
  have hleft := hok.2.2
  obtain ⟨q1, q2, q3⟩ := cut_parts s n (by omega)
  have HS : Hid (StepOk f s.data.toList (s.extract n s.size).data.toList none' { f with p := .passData, left := f.left - n }) := by
    show StepOk _ _ _ _ _
    have := so_pass hok hp (x := (s.extract 0 n).data.toList) (r := (s.extract n s.size).data.toList) (by rw [q1]; exact h0) (by rw [q1, q2, ← size_list]; exact hn)
    rw [q1, q2, show passTo f n = .passData from by unfold passTo; simp [hcase]] at this
    exact this
  obtain ⟨hv, kv, g⟩ := hf
  rw [hp] at g
  have HX : Hid (At (w.alloc (.cells #[.int .i64 0, .slice none 0 0, .int .u32 0, .int .i64 0, .string ⟨#[]⟩, .bool false, .string ⟨#[]⟩] 38)) w.heap.size #[.int .i64 0, .slice none 0 0, .int .u32 0, .int .i64 0, .string ⟨#[]⟩, .bool false, .string ⟨#[]⟩] 38) := at_new _ _ _
  have HN : Hid (w.heap.size ≠ F) := by have := at_lt g.2.1; show _ ≠ _; omega
  have HR : Hid (Fr B F w (w.alloc (.cells #[.int .i64 0, .slice none 0 0, .int .u32 0, .int .i64 0, .string ⟨#[]⟩, .bool false, .string ⟨#[]⟩] 38))) := fr_alloc (fr_refl B F w) _
  have HY : Hid (∀ (u : World) (a0 a1 a2 a3 a4 a5 a6 : Value), Fr B F w u → Fr B F w (set7 u w.heap.size a0 a1 a2 a3 a4 a5 a6)) := fun u a0 a1 a2 a3 a4 a5 a6 h => fr_set7 h (Nat.le_refl _) _ _ _ _ _ _ _
  have HC := hid (cutData_any B F _ _ _ _ _ _ s n hn hleft hsz _ (fa_alloc g (.cells #[.int .i64 0, .slice none 0 0, .int .u32 0, .int .i64 0, .string ⟨#[]⟩, .bool false, .string ⟨#[]⟩] 38)))
  clear hok hp g hn h0 hleft
  go_enter Try.func35, Try.ntmps35
  go_wp2_with fail
  generalize w.alloc (.cells #[.int .i64 0, .slice none 0 0, .int .u32 0, .int .i64 0, .string ⟨#[]⟩, .bool false, .string ⟨#[]⟩] 38) = wa at *
  generalize w.heap.size = X at *
  refine HC.out.mono ?_
  rintro e w1 ⟨rfl, g1, t1⟩
  have hXF : X ≠ F := HN.out
  have hFX : F ≠ X := fun e => HN.out e.symm
  have HX1 := hid (at_turn HX.out t1 HN.out)
  have HR1 := hid (fr_trans HR.out (fr_turn (B := B) t1))
  clear HC HX HR t1
  have ht : (((f.left - n : Nat) : Int) == 0) = false := by simp; omega
  clear hcase
  obtain ⟨c0, c1, c2, c3, c4, c5, c6, c7, c8, c9, cf⟩ := at_cells10 g1.2.1
  have HG1 := hid g1
  clear g1
  obtain ⟨d0, d1, d2, d3, d4, d5, d6, df⟩ := at_cells7 HX1.out
  go_wp2_with fail
  refine bodyPost_ret (resT rfl _ rfl rfl (at_set7 HX1.out _ _ _ _ _ _ _)) rfl ?_
  exact ⟨_, none', _, .slice none 0 0, rfl, HS.out, ⟨_, _, fa_res HG1.out HX1.out _ _ _ _ _ _ _⟩, keys_nil _, HY.out _ _ _ _ _ _ _ _ HR1.out⟩
set_option maxHeartbeats 1600000 in
set_option maxRecDepth 100000 in
theorem pass_done (B F : Nat) (f : Fd) (hok : okF f) (hp : f.p = .passData) (s : ByteArray) (n : Nat) (hn : n = min f.left s.size) (h0 : s.data.toList ≠ []) (hsz : s.size ≤ 4294967296) (hcase : f.left - n = 0) (w : World) (hf : FeedAt B w F f) :
    Calls Try.prog 35 #[.pointer (some ⟨F, 0, none⟩), .string s] w (StepC B F f s w) := by
  have hz := zero26
  have hleft := hok.2.2
  obtain ⟨q1, q2, q3⟩ := cut_parts s n (by omega)
  have HS : Hid (StepOk f s.data.toList (s.extract n s.size).data.toList none' { f with p := .passLine, left := f.left - n }) := by
    show StepOk _ _ _ _ _
    have := so_pass hok hp (x := (s.extract 0 n).data.toList) (r := (s.extract n s.size).data.toList) (by rw [q1]; exact h0) (by rw [q1, q2, ← size_list]; exact hn)
    rw [q1, q2, show passTo f n = .passLine from by unfold passTo; simp [hcase]] at this
    exact this
  obtain ⟨hv, kv, g⟩ := hf
  rw [hp] at g
  have HX : Hid (At (w.alloc (.cells #[.int .i64 0, .slice none 0 0, .int .u32 0, .int .i64 0, .string ⟨#[]⟩, .bool false, .string ⟨#[]⟩] 38)) w.heap.size #[.int .i64 0, .slice none 0 0, .int .u32 0, .int .i64 0, .string ⟨#[]⟩, .bool false, .string ⟨#[]⟩] 38) := at_new _ _ _
  have HN : Hid (w.heap.size ≠ F) := by have := at_lt g.2.1; show _ ≠ _; omega
  have HR : Hid (Fr B F w (w.alloc (.cells #[.int .i64 0, .slice none 0 0, .int .u32 0, .int .i64 0, .string ⟨#[]⟩, .bool false, .string ⟨#[]⟩] 38))) := fr_alloc (fr_refl B F w) _
  have HY : Hid (∀ (u : World) (a0 a1 a2 a3 a4 a5 a6 : Value), Fr B F w u → Fr B F w (set7 u w.heap.size a0 a1 a2 a3 a4 a5 a6)) := fun u a0 a1 a2 a3 a4 a5 a6 h => fr_set7 h (Nat.le_refl _) _ _ _ _ _ _ _
  have HC := hid (cutData_any B F _ _ _ _ _ _ s n hn hleft hsz _ (fa_alloc g (.cells #[.int .i64 0, .slice none 0 0, .int .u32 0, .int .i64 0, .string ⟨#[]⟩, .bool false, .string ⟨#[]⟩] 38)))
  clear hok hp g hn h0 hleft
  go_enter Try.func35, Try.ntmps35
  go_wp2_with fail
  generalize w.alloc (.cells #[.int .i64 0, .slice none 0 0, .int .u32 0, .int .i64 0, .string ⟨#[]⟩, .bool false, .string ⟨#[]⟩] 38) = wa at *
  generalize w.heap.size = X at *
  refine HC.out.mono ?_
  rintro e w1 ⟨rfl, g1, t1⟩
  have hXF : X ≠ F := HN.out
  have hFX : F ≠ X := fun e => HN.out e.symm
  have HX1 := hid (at_turn HX.out t1 HN.out)
  have HR1 := hid (fr_trans HR.out (fr_turn (B := B) t1))
  clear HC HX HR t1
  have ht : (((f.left - n : Nat) : Int) == 0) = true := by simp; omega
  clear hcase
  obtain ⟨c0, c1, c2, c3, c4, c5, c6, c7, c8, c9, cf⟩ := at_cells10 g1.2.1
  have HG2 : Hid (FA B F (w1.setCell ⟨F, 0, none⟩ (nextV F .passLine)) .passLine hv kv f.set (f.left - n) f.h) := fa_next g1 .passLine
  have HX2 : Hid (At (w1.setCell ⟨F, 0, none⟩ (nextV F .passLine)) X #[.int .i64 0, .slice none 0 0, .int .u32 0, .int .i64 0, .string ⟨#[]⟩, .bool false, .string ⟨#[]⟩] 38) := at_other HX1.out HN.out _ _
  have HR2 : Hid (Fr B F w (w1.setCell ⟨F, 0, none⟩ (nextV F .passLine))) := fr_set HR1.out _ _
  obtain ⟨d0, d1, d2, d3, d4, d5, d6, df⟩ := at_cells7 HX1.out
  clear g1
  go_wp2_with fail
  refine bodyPost_ret (resT rfl _ rfl rfl (at_set7 HX2.out _ _ _ _ _ _ _)) rfl ?_
  exact ⟨_, none', _, .slice none 0 0, rfl, HS.out, ⟨_, _, fa_res HG2.out HX2.out _ _ _ _ _ _ _⟩, keys_nil _, HY.out _ _ _ _ _ _ _ _ HR2.out⟩
set_option maxHeartbeats 1600000 in
set_option maxRecDepth 100000 in
theorem data_on (B F : Nat) (f : Fd) (hok : okF f) (hp : f.p = .data) (s : ByteArray) (n : Nat) (hn : n = min f.left s.size) (h0 : s.data.toList ≠ []) (hsz : s.size ≤ 4294967296) (hcase : f.left - n ≠ 0) (w : World) (hf : FeedAt B w F f) :
    Calls Try.prog 34 #[.pointer (some ⟨F, 0, none⟩), .string s] w (StepC B F f s w) := by
  have hz := zero26
  have hleft := hok.2.2
  obtain ⟨q1, q2, q3⟩ := cut_parts s n (by omega)
  have hlen : f.h.length + (s.extract 0 n).size ≤ 4294967296 := by
    have h1 := hok.1
    simp only [absF, hp, okS] at h1
    rw [size_list, q2]
    omega
  have HS : Hid (StepOk f s.data.toList (s.extract n s.size).data.toList none' { f with p := .data, h := f.h ++ (s.extract 0 n).data.toList, left := f.left - n }) := by
    show StepOk _ _ _ _ _
    have := so_data hok hp (x := (s.extract 0 n).data.toList) (r := (s.extract n s.size).data.toList) (by rw [q1]; exact h0) (by rw [q1, q2, ← size_list]; exact hn)
    rw [q1, q2, show dataTo f n = .data from by unfold dataTo; simp [hcase]] at this
    exact this
  obtain ⟨hv, kv, g⟩ := hf
  rw [hp] at g
  have HX : Hid (At (w.alloc (.cells #[.int .i64 0, .slice none 0 0, .int .u32 0, .int .i64 0, .string ⟨#[]⟩, .bool false, .string ⟨#[]⟩] 38)) w.heap.size #[.int .i64 0, .slice none 0 0, .int .u32 0, .int .i64 0, .string ⟨#[]⟩, .bool false, .string ⟨#[]⟩] 38) := at_new _ _ _
  have HN : Hid (w.heap.size ≠ F) := by have := at_lt g.2.1; show _ ≠ _; omega
  have HR : Hid (Fr B F w (w.alloc (.cells #[.int .i64 0, .slice none 0 0, .int .u32 0, .int .i64 0, .string ⟨#[]⟩, .bool false, .string ⟨#[]⟩] 38))) := fr_alloc (fr_refl B F w) _
  have HY : Hid (∀ (u : World) (a0 a1 a2 a3 a4 a5 a6 : Value), Fr B F w u → Fr B F w (set7 u w.heap.size a0 a1 a2 a3 a4 a5 a6)) := fun u a0 a1 a2 a3 a4 a5 a6 h => fr_set7 h (Nat.le_refl _) _ _ _ _ _ _ _
  have HC := hid (cutData_any B F _ _ _ _ _ _ s n hn hleft hsz _ (fa_alloc g (.cells #[.int .i64 0, .slice none 0 0, .int .u32 0, .int .i64 0, .string ⟨#[]⟩, .bool false, .string ⟨#[]⟩] 38)))
  clear hok hp g hn h0 hleft
  go_enter Try.func34, Try.ntmps34
  go_wp2_with fail
  generalize w.alloc (.cells #[.int .i64 0, .slice none 0 0, .int .u32 0, .int .i64 0, .string ⟨#[]⟩, .bool false, .string ⟨#[]⟩] 38) = wa at *
  generalize w.heap.size = X at *
  refine HC.out.mono ?_
  rintro e w1 ⟨rfl, g1, t1⟩
  have hXF : X ≠ F := HN.out
  have hFX : F ≠ X := fun e => HN.out e.symm
  have HX1 := hid (at_turn HX.out t1 HN.out)
  have HR1 := hid (fr_trans HR.out (fr_turn (B := B) t1))
  clear HC HX HR t1
  have ht : (((f.left - n : Nat) : Int) == 0) = false := by simp; omega
  clear hcase
  obtain ⟨v2, w2, hrun, A2, g2, f2, k2, va, vn, vc, rfl⟩ := fa_more g1 (s.extract 0 n) hlen
  have HX2 := hid (k2 HX1.out (by decide))
  have HR2 := hid (fr_trans HR1.out f2)
  have HRun := hid hrun
  have HA2 := hid A2
  have HG2 := hid g2
  obtain ⟨c0, c1, c2, c3, c4, c5, c6, c7, c8, c9, cf⟩ := at_cells10 g1.2.1
  clear f2 k2 HX1 HR1 hrun A2 g2 g1 hlen
  obtain ⟨b0, b1, b2, b3, b4, b5, b6, b7, b8, b9, bf⟩ := at_cells10 HA2.out
  obtain ⟨d0, d1, d2, d3, d4, d5, d6, df⟩ := at_cells7 HX2.out
  have HX3 : Hid (At (w2.setCell ⟨F, 1, none⟩ (.slice va vn vc)) X #[.int .i64 0, .slice none 0 0, .int .u32 0, .int .i64 0, .string ⟨#[]⟩, .bool false, .string ⟨#[]⟩] 38) := at_other HX2.out HN.out _ _
  have HR3 : Hid (Fr B F w (w2.setCell ⟨F, 1, none⟩ (.slice va vn vc))) := fr_set HR2.out _ _
  go_wp2_with (at_builtin; go_must (refine wpList_run rfl (.tmp 18) (.tmp 19) 43 9 rfl _ _ (.slice va vn vc) rfl rfl HRun.out ?_))
  refine bodyPost_ret (resT rfl _ rfl rfl (at_set7 HX3.out _ _ _ _ _ _ _)) rfl ?_
  exact ⟨_, none', _, .slice none 0 0, rfl, HS.out, ⟨_, _, fa_res HG2.out HX3.out _ _ _ _ _ _ _⟩, keys_nil _, HY.out _ _ _ _ _ _ _ _ HR3.out⟩
set_option maxHeartbeats 1600000 in
set_option maxRecDepth 100000 in
theorem data_done (B F : Nat) (f : Fd) (hok : okF f) (hp : f.p = .data) (s : ByteArray) (n : Nat) (hn : n = min f.left s.size) (h0 : s.data.toList ≠ []) (hsz : s.size ≤ 4294967296) (hcase : f.left - n = 0) (w : World) (hf : FeedAt B w F f) :
    Calls Try.prog 34 #[.pointer (some ⟨F, 0, none⟩), .string s] w (StepC B F f s w) := by
  have hz := zero26
  have hleft := hok.2.2
  obtain ⟨q1, q2, q3⟩ := cut_parts s n (by omega)
  have hlen : f.h.length + (s.extract 0 n).size ≤ 4294967296 := by
    have h1 := hok.1
    simp only [absF, hp, okS] at h1
    rw [size_list, q2]
    omega
  have HS : Hid (StepOk f s.data.toList (s.extract n s.size).data.toList none' { f with p := .tail, h := f.h ++ (s.extract 0 n).data.toList, left := f.left - n }) := by
    show StepOk _ _ _ _ _
    have := so_data hok hp (x := (s.extract 0 n).data.toList) (r := (s.extract n s.size).data.toList) (by rw [q1]; exact h0) (by rw [q1, q2, ← size_list]; exact hn)
    rw [q1, q2, show dataTo f n = .tail from by unfold dataTo; simp [hcase]] at this
    exact this
  obtain ⟨hv, kv, g⟩ := hf
  rw [hp] at g
  have HX : Hid (At (w.alloc (.cells #[.int .i64 0, .slice none 0 0, .int .u32 0, .int .i64 0, .string ⟨#[]⟩, .bool false, .string ⟨#[]⟩] 38)) w.heap.size #[.int .i64 0, .slice none 0 0, .int .u32 0, .int .i64 0, .string ⟨#[]⟩, .bool false, .string ⟨#[]⟩] 38) := at_new _ _ _
  have HN : Hid (w.heap.size ≠ F) := by have := at_lt g.2.1; show _ ≠ _; omega
  have HR : Hid (Fr B F w (w.alloc (.cells #[.int .i64 0, .slice none 0 0, .int .u32 0, .int .i64 0, .string ⟨#[]⟩, .bool false, .string ⟨#[]⟩] 38))) := fr_alloc (fr_refl B F w) _
  have HY : Hid (∀ (u : World) (a0 a1 a2 a3 a4 a5 a6 : Value), Fr B F w u → Fr B F w (set7 u w.heap.size a0 a1 a2 a3 a4 a5 a6)) := fun u a0 a1 a2 a3 a4 a5 a6 h => fr_set7 h (Nat.le_refl _) _ _ _ _ _ _ _
  have HC := hid (cutData_any B F _ _ _ _ _ _ s n hn hleft hsz _ (fa_alloc g (.cells #[.int .i64 0, .slice none 0 0, .int .u32 0, .int .i64 0, .string ⟨#[]⟩, .bool false, .string ⟨#[]⟩] 38)))
  clear hok hp g hn h0 hleft
  go_enter Try.func34, Try.ntmps34
  go_wp2_with fail
  generalize w.alloc (.cells #[.int .i64 0, .slice none 0 0, .int .u32 0, .int .i64 0, .string ⟨#[]⟩, .bool false, .string ⟨#[]⟩] 38) = wa at *
  generalize w.heap.size = X at *
  refine HC.out.mono ?_
  rintro e w1 ⟨rfl, g1, t1⟩
  have hXF : X ≠ F := HN.out
  have hFX : F ≠ X := fun e => HN.out e.symm
  have HX1 := hid (at_turn HX.out t1 HN.out)
  have HR1 := hid (fr_trans HR.out (fr_turn (B := B) t1))
  clear HC HX HR t1
  have ht : (((f.left - n : Nat) : Int) == 0) = true := by simp; omega
  clear hcase
  obtain ⟨v2, w2, hrun, A2, g2, f2, k2, va, vn, vc, rfl⟩ := fa_more g1 (s.extract 0 n) hlen
  have HX2 := hid (k2 HX1.out (by decide))
  have HR2 := hid (fr_trans HR1.out f2)
  have HRun := hid hrun
  have HA2 := hid A2
  have HG2 := hid g2
  obtain ⟨c0, c1, c2, c3, c4, c5, c6, c7, c8, c9, cf⟩ := at_cells10 g1.2.1
  clear f2 k2 HX1 HR1 hrun A2 g2 g1 hlen
  obtain ⟨b0, b1, b2, b3, b4, b5, b6, b7, b8, b9, bf⟩ := at_cells10 HA2.out
  obtain ⟨d0, d1, d2, d3, d4, d5, d6, df⟩ := at_cells7 HX2.out
  have HX3 : Hid (At ((w2.setCell ⟨F, 1, none⟩ (.slice va vn vc)).setCell ⟨F, 0, none⟩ (nextV F .tail)) X #[.int .i64 0, .slice none 0 0, .int .u32 0, .int .i64 0, .string ⟨#[]⟩, .bool false, .string ⟨#[]⟩] 38) := at_other (at_other HX2.out HN.out _ _) HN.out _ _
  have HR3 : Hid (Fr B F w ((w2.setCell ⟨F, 1, none⟩ (.slice va vn vc)).setCell ⟨F, 0, none⟩ (nextV F .tail))) := fr_set (fr_set HR2.out _ _) _ _
  have HG3 := hid (fa_next HG2.out .tail)
  go_wp2_with (at_builtin; go_must (refine wpList_run rfl (.tmp 18) (.tmp 19) 43 9 rfl _ _ (.slice va vn vc) rfl rfl HRun.out ?_))
  refine bodyPost_ret (resT rfl _ rfl rfl (at_set7 HX3.out _ _ _ _ _ _ _)) rfl ?_
  exact ⟨_, none', _, .slice none 0 0, rfl, HS.out, ⟨_, _, fa_res HG3.out HX3.out _ _ _ _ _ _ _⟩, keys_nil _, HY.out _ _ _ _ _ _ _ _ HR3.out⟩
end Go.Proofs.Ytjlojkcdglocbaa
