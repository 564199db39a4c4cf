/- The contract of the feed's line, where it doesn't end: it is too long, or it goes on. -/
import Derived.Test.YtjlojkcdglocbaaFeedLine
namespace Go.Proofs.Ytjlojkcdglocbaa
open Go.ChangeShapes Go.WideShapes Go.ChangeAt Go.RowKit
set_option linter.unusedVariables false
set_option linter.unusedSimpArgs false

theorem split_any {s : ByteArray} {x r : List UInt8} {b : UInt8} (hs : s.data.toList = x ++ b :: r) : (s.extract (x.length + 1) s.size).data.toList = r ∧ x.length + 1 ≤ s.size ∧ (s.extract 0 (x.length + 1)).data.toList = x ++ [b] := by
  rw [ex_list, ex_list, size_list, hs]
  refine ⟨?_, by simp, ?_⟩
  · rw [List.drop_append, List.drop_eq_nil_of_le (by omega)]
    simp
    exact List.take_of_length_le (by omega)
  · rw [List.drop_zero, Nat.sub_zero, List.take_append, List.take_of_length_le (by omega)]
    simp
theorem ix_miss {s : ByteArray} (h : (10 : UInt8) ∉ s.data.toList) : ix s = -1 := by
  rcases ix_list s.data.toList with ⟨-, h2⟩ | ⟨x, r, h1, -, -⟩
  · exact h2
  · exact absurd (by rw [h1]; simp) h
set_option maxHeartbeats 1600000 in
set_option maxRecDepth 100000 in
theorem line_long (B F : Nat) (f : Fd) (hok : okF f) (hp : f.p = .line) (s : ByteArray) (x r : List UInt8) (b : UInt8) (hs : s.data.toList = x ++ b :: r) (hx : (10 : UInt8) ∉ x) (hb : b ≠ 10) (hl : f.h.length + x.length = 2048) (w : World) (hf : FeedAt B w F f) :
    Calls Try.prog 17 #[.pointer (some ⟨F, 0, none⟩), .string s] w (StepC B F f s w) := by
  obtain ⟨q1, q2, q3⟩ := split_any hs
  obtain ⟨m, hm⟩ : ∃ m, m = x.length := ⟨_, rfl⟩
  rw [← hm] at q1 q2 q3
  have hz := zero26
  obtain ⟨hv, kv, g⟩ := hf
  rw [hp] at g
  obtain ⟨ha, hcap, hhv, -⟩ := held_text g.2.2.1
  subst hhv
  obtain ⟨n, hn⟩ : ∃ n, n = f.h.length := ⟨_, rfl⟩
  have hn0 : n ≤ 2048 := by
    have h1 := hok.1
    simp only [absF, hp, okS] at h1
    omega
  have HX : Hid (At (w.alloc (.cells #[.int .i64 0, .slice none 0 0, .int .u32 0, .int .i64 0, .string ⟨#[]⟩, .bool false, .string ⟨#[]⟩] 38)) w.heap.size #[.int .i64 0, .slice none 0 0, .int .u32 0, .int .i64 0, .string ⟨#[]⟩, .bool false, .string ⟨#[]⟩] 38) := at_new _ _ _
  have HN : Hid (w.heap.size ≠ F) := by have := at_lt g.2.1; show _ ≠ _; omega
  have HR : Hid (Fr B F w (w.alloc (.cells #[.int .i64 0, .slice none 0 0, .int .u32 0, .int .i64 0, .string ⟨#[]⟩, .bool false, .string ⟨#[]⟩] 38))) := fr_alloc (fr_refl B F w) _
  have HY : Hid (∀ (u : World) (a0 a1 a2 a3 a4 a5 a6 : Value), Fr B F w u → Fr B F w (set7 u w.heap.size a0 a1 a2 a3 a4 a5 a6)) := fun u a0 a1 a2 a3 a4 a5 a6 h => fr_set7 h (Nat.le_refl _) _ _ _ _ _ _ _
  have HG := hid (fa_alloc g (.cells #[.int .i64 0, .slice none 0 0, .int .u32 0, .int .i64 0, .string ⟨#[]⟩, .bool false, .string ⟨#[]⟩] 38))
  rw [← hn] at HG
  have hmn : (2048 : Int) - (n : Int) = (m : Int) := by omega
  have hm3 : m ≤ 2048 := by omega
  obtain ⟨k, hk⟩ : ∃ k : Nat, min (s.size : Int) ((m : Int) + 1) = (k : Int) := ⟨m + 1, by omega⟩
  have hkm : k = m + 1 := by omega
  have hk1 : (k : Int) ≤ (s.size : Int) := by omega
  have HI : Hid (∀ w, Calls Try.prog 25 #[.string (s.extract 0 k), .int .u8 10] w fun e w' => e = .returned (.int .i64 (-1)) ∧ w' = w) := fun w => by
    have h1 := index_any (s.extract 0 k) w
    rw [ix_miss (s := s.extract 0 k) (by rw [hkm, q3]; simp [hx]; exact fun e => hb e.symm)] at h1
    exact h1
  have hm2 : (m : Int) + 1 ≤ (s.size : Int) := by omega
  have hgt : (m : Int) < (s.size : Int) := by omega
  have HS : Hid (StepOk f s.data.toList (s.extract (m + 1) s.size).data.toList ⟨bad rLong, mt⟩ { f with p := .passLine, h := [] }) := by
    show StepOk _ _ _ _ _
    rw [q1, hs]
    exact so_line_long hok hp hx hb hl
  clear hs hx hl q1 q2 q3 hm hkm hok hp g hn hb
  obtain ⟨c0, c1, c2, c3, c4, c5, c6, c7, c8, c9, cf⟩ := at_cells10 HG.out.2.1
  go_enter Try.func17, Try.ntmps17
  go_wp2_with fail
  generalize w.alloc (.cells #[.int .i64 0, .slice none 0 0, .int .u32 0, .int .i64 0, .string ⟨#[]⟩, .bool false, .string ⟨#[]⟩] 38) = wa at *
  generalize w.heap.size = X at *
  refine (HI.out _).mono ?_
  rintro e w1 ⟨rfl, hw⟩
  rw [hw]; clear hw w1
  go_wp2_with fail
  have HXu : Hid (At ((wa.setCell ⟨F, 1, none⟩ (.slice none 0 0)).setCell ⟨F, 0, none⟩ (nextV F .passLine)) X #[.int .i64 0, .slice none 0 0, .int .u32 0, .int .i64 0, .string ⟨#[]⟩, .bool false, .string ⟨#[]⟩] 38) := at_other (at_other HX.out HN.out _ _) HN.out _ _
  have HRu : Hid (Fr B F w ((wa.setCell ⟨F, 1, none⟩ (.slice none 0 0)).setCell ⟨F, 0, none⟩ (nextV F .passLine))) := fr_set (fr_set HR.out _ _) _ _
  have HGu : Hid (FA B F ((wa.setCell ⟨F, 1, none⟩ (.slice none 0 0)).setCell ⟨F, 0, none⟩ (nextV F .passLine)) .passLine (.slice none 0 0) kv f.set f.left []) := fa_next (fa_drop HG.out) .passLine
  show Code.wp Try.prog _ _ _ ((wa.setCell ⟨F, 1, none⟩ (.slice none 0 0)).setCell ⟨F, 0, none⟩ (nextV F .passLine))
  clear HX HR HG HI c0 c1 c2 c3 c4 c5 c6 c7 c8 c9 cf hk
  generalize ((wa.setCell ⟨F, 1, none⟩ (.slice none 0 0)).setCell ⟨F, 0, none⟩ (nextV F .passLine)) = u at *
  refine wp_region_noPanic ?_
  refine wp_region_held_drew (S := (fun _ => True)) (by kernel_rfl) (trivial) (fun hHeld => ?_)
  refine wpAnyH_take (i := 0) (v := .string s) rfl (by kernel_rfl) (by kernel_rfl) (by kernel_rfl) (fun _ _ _ h => h) (Or.inl ⟨by rfl, fun w hSw => by (try dsimp only at hSw); go_simp⟩) (by assumption) ?_
  try simp only [List.getElem_toArray, List.getElem_cons_zero, List.getElem_cons_succ, Act.put, List.setIfInBounds_toArray, List.set_cons_zero, List.set_cons_succ]
  refine wpAnyH_take (i := 1) (v := .int .i64 (m : Int)) rfl (by kernel_rfl) (by kernel_rfl) (by kernel_rfl) (fun _ _ _ h => h) (Or.inl ⟨by rfl, fun w hSw => by (try dsimp only at hSw); go_simp⟩) (by assumption) ?_
  try simp only [List.getElem_toArray, List.getElem_cons_zero, List.getElem_cons_succ, Act.put, List.setIfInBounds_toArray, List.set_cons_zero, List.set_cons_succ]
  refine wpAnyH_take (i := 2) (v := .int .i64 ((m : Int) + 1)) rfl (by kernel_rfl) (by kernel_rfl) (by kernel_rfl) (fun _ _ _ h => h) (Or.inl ⟨by rfl, fun w hSw => by (try dsimp only at hSw); go_simp; exact wrapS (by omega) (by omega)⟩) (by assumption) ?_
  try simp only [List.getElem_toArray, List.getElem_cons_zero, List.getElem_cons_succ, Act.put, List.setIfInBounds_toArray, List.set_cons_zero, List.set_cons_succ]
  refine wpAnyH_take (i := 3) (v := .string (s.extract (m + 1) s.size)) rfl (by kernel_rfl) (by kernel_rfl) (by kernel_rfl) (fun _ _ _ h => h) (Or.inl ⟨by rfl, fun w hSw => by (try dsimp only at hSw); go_simp; exact fun hneg => absurd hneg (by omega)⟩) (by assumption) ?_
  try simp only [List.getElem_toArray, List.getElem_cons_zero, List.getElem_cons_succ, Act.put, List.setIfInBounds_toArray, List.set_cons_zero, List.set_cons_succ]
  refine wpAnyH_ready (rs := [4]) (by kernel_rfl) (by simp) ?_
  refine AllReadyH.cons (i := 4) rfl (fun K hK => ?_) AllReadyH.nil
  go_simp
  refine (feedbad_any _ _).mono ?_
  rintro e w3 ⟨rfl, hkp⟩
  have HX3 := hid (at_kept (at_drew HXu.out) hkp)
  have HR3 := hid (fr_trans (fr_drew HRu.out) (fr_kept (B := B) (F := F) hkp))
  have HG3 := hid (fa_kept (fa_drew HGu.out) hkp)
  clear hkp
  show K _ _
  refine hK.out _ _ (trivial) (fun hHeld => ?_)
  clear hK K
  try simp only [List.getElem_toArray, List.getElem_cons_zero, List.getElem_cons_succ, Act.put, List.setIfInBounds_toArray, List.set_cons_zero, List.set_cons_succ]
  refine wpAnyH_take (i := 5) (v := .string (s.extract (m + 1) s.size)) rfl (by kernel_rfl) (by kernel_rfl) (by kernel_rfl) (fun _ _ _ h => h) (Or.inl ⟨by rfl, fun w hSw => by (try dsimp only at hSw); go_simp⟩) (by assumption) ?_
  try simp only [List.getElem_toArray, List.getElem_cons_zero, List.getElem_cons_succ, Act.put, List.setIfInBounds_toArray, List.set_cons_zero, List.set_cons_succ]
  obtain ⟨d0, d1, d2, d3, d4, d5, d6, df⟩ := at_cells7 HX3.out
  refine wpAnyH_ready (rs := [6]) (by kernel_rfl) (by simp) ?_
  refine AllReadyH.cons (i := 6) rfl (fun K hK => ?_) AllReadyH.nil
  go_simp
  show K _ _
  refine hK.out _ _ (trivial) (fun hHeld => ?_)
  clear hK K
  try simp only [List.getElem_toArray, List.getElem_cons_zero, List.getElem_cons_succ, Act.put, List.setIfInBounds_toArray, List.set_cons_zero, List.set_cons_succ]
  refine wpAnyH_done (by kernel_rfl) ?_ _
  refine NoPanic.normal ?_
  clear d0 d1 d2 d3 d4 d5 d6 df
  go_wp2_with fail
  refine bodyPost_ret (resT rfl _ rfl rfl (at_set7 HX3.out _ _ _ _ _ _ _)) rfl ?_
  exact ⟨_, ⟨bad rLong, mt⟩, _, .slice none 0 0, rfl, HS.out, ⟨_, _, fa_res HG3.out HX3.out _ _ _ _ _ _ _⟩, keys_nil _, HY.out _ _ _ _ _ _ _ _ HR3.out⟩
set_option maxHeartbeats 1600000 in
set_option maxRecDepth 100000 in
theorem line_more (B F : Nat) (f : Fd) (hok : okF f) (hp : f.p = .line) (s : ByteArray) (h0 : s.data.toList ≠ []) (hx : (10 : UInt8) ∉ s.data.toList) (hl : f.h.length + s.data.toList.length ≤ 2048) (w : World) (hf : FeedAt B w F f) :
    Calls Try.prog 17 #[.pointer (some ⟨F, 0, none⟩), .string s] w (StepC B F f s w) := by
  have hz := zero26
  obtain ⟨hv, kv, g⟩ := hf
  rw [hp] at g
  obtain ⟨ha, hcap, hhv, -⟩ := held_text g.2.2.1
  subst hhv
  obtain ⟨n, hn⟩ : ∃ n, n = f.h.length := ⟨_, rfl⟩
  have hn0 : n ≤ 2048 := by
    have h1 := hok.1
    simp only [absF, hp, okS] at h1
    omega
  have HX : Hid (At (w.alloc (.cells #[.int .i64 0, .slice none 0 0, .int .u32 0, .int .i64 0, .string ⟨#[]⟩, .bool false, .string ⟨#[]⟩] 38)) w.heap.size #[.int .i64 0, .slice none 0 0, .int .u32 0, .int .i64 0, .string ⟨#[]⟩, .bool false, .string ⟨#[]⟩] 38) := at_new _ _ _
  have HN : Hid (w.heap.size ≠ F) := by have := at_lt g.2.1; show _ ≠ _; omega
  have HR : Hid (Fr B F w (w.alloc (.cells #[.int .i64 0, .slice none 0 0, .int .u32 0, .int .i64 0, .string ⟨#[]⟩, .bool false, .string ⟨#[]⟩] 38))) := fr_alloc (fr_refl B F w) _
  have HY : Hid (∀ (u : World) (a0 a1 a2 a3 a4 a5 a6 : Value), Fr B F w u → Fr B F w (set7 u w.heap.size a0 a1 a2 a3 a4 a5 a6)) := fun u a0 a1 a2 a3 a4 a5 a6 h => fr_set7 h (Nat.le_refl _) _ _ _ _ _ _ _
  have HG := hid (fa_alloc g (.cells #[.int .i64 0, .slice none 0 0, .int .u32 0, .int .i64 0, .string ⟨#[]⟩, .bool false, .string ⟨#[]⟩] 38))
  rw [← hn] at HG
  have hlen := size_list s
  have hk : min (s.size : Int) (2048 - (n : Int) + 1) = (s.size : Int) := by omega
  have HI : Hid (∀ w, Calls Try.prog 25 #[.string s, .int .u8 10] w fun e w' => e = .returned (.int .i64 (-1)) ∧ w' = w) := fun w => by
    have h1 := index_any s w
    rw [ix_miss (s := s) hx] at h1
    exact h1
  have hgt : ¬ (2048 : Int) - (n : Int) < (s.size : Int) := by omega
  have HS : Hid (StepOk f s.data.toList [] none' { f with h := f.h ++ s.data.toList }) := so_line_more hok hp h0 hx hl
  obtain ⟨v2, w2, hrun, A2, g2, f2, k2, va, vn, vc, rfl⟩ := fa_more (fa_alloc g (.cells #[.int .i64 0, .slice none 0 0, .int .u32 0, .int .i64 0, .string ⟨#[]⟩, .bool false, .string ⟨#[]⟩] 38)) s (by omega)
  have HX2 := hid (k2 HX.out (by decide))
  have HR2 := hid (fr_trans HR.out f2)
  rw [← hn] at hrun
  have HRun := hid hrun
  have HA2 := hid A2
  rw [← hp] at g2
  have HG2 := hid g2
  rw [← hn] at HA2
  clear hlen hx hl hok g hn h0 f2 k2 HX HR hrun A2 g2
  obtain ⟨c0, c1, c2, c3, c4, c5, c6, c7, c8, c9, cf⟩ := at_cells10 HG.out.2.1
  go_enter Try.func17, Try.ntmps17
  go_wp2_with fail
  generalize w.alloc (.cells #[.int .i64 0, .slice none 0 0, .int .u32 0, .int .i64 0, .string ⟨#[]⟩, .bool false, .string ⟨#[]⟩] 38) = wa at *
  generalize w.heap.size = X at *
  refine (HI.out _).mono ?_
  rintro e w1 ⟨rfl, hw⟩
  rw [hw]; clear hw w1
  have hXF : X ≠ F := HN.out
  have hFX : F ≠ X := fun e => HN.out e.symm
  obtain ⟨b0, b1, b2, b3, b4, b5, b6, b7, b8, b9, bf⟩ := at_cells10 HA2.out
  obtain ⟨d0, d1, d2, d3, d4, d5, d6, df⟩ := at_cells7 HX2.out
  have HX3 : Hid (At (w2.setCell ⟨F, 1, none⟩ (.slice va vn vc)) X #[.int .i64 0, .slice none 0 0, .int .u32 0, .int .i64 0, .string ⟨#[]⟩, .bool false, .string ⟨#[]⟩] 38) := at_other HX2.out HN.out _ _
  have HR3 : Hid (Fr B F w (w2.setCell ⟨F, 1, none⟩ (.slice va vn vc))) := fr_set HR2.out _ _
  go_wp2_with (at_builtin; refine wpList_run rfl (.tmp 66) (.tmp 67) 43 9 rfl _ _ (.slice va vn vc) rfl rfl HRun.out ?_)
  refine bodyPost_ret (resT rfl _ rfl rfl (at_set7 HX3.out _ _ _ _ _ _ _)) rfl ?_
  exact ⟨⟨#[]⟩, none', _, .slice none 0 0, rfl, HS.out, ⟨_, _, fa_res HG2.out HX3.out _ _ _ _ _ _ _⟩, keys_nil _, HY.out _ _ _ _ _ _ _ _ HR3.out⟩
end Go.Proofs.Ytjlojkcdglocbaa
