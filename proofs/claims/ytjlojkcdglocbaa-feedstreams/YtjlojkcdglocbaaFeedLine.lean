/- The contract of the feed's line. The text has at most 2^32 bytes. -/
import Derived.Test.YtjlojkcdglocbaaFeedCmd
import Derived.Deep.RegionHeld3
namespace Go.Proofs.Ytjlojkcdglocbaa
open Go.ChangeShapes Go.WideShapes Go.ChangeAt Go.RowKit
set_option linter.unusedVariables false
set_option linter.unusedSimpArgs false

theorem wrapS {x : Int} (h0 : 0 ≤ x) (h1 : x ≤ 4294967296) : IntKind.i64.wrap x = x := by
  simp [IntKind.wrap, IntKind.bits, IntKind.signed]
  omega
theorem after_body (f : Fd) (p : Cm × Int) : (afterCmd f p).1.body = mt := by
  unfold afterCmd
  repeat' split
  all_goals rfl
theorem command_any (B F : Nat) (f : Fd) (s : ByteArray) (hs : s.size ≤ 4294967296) (w : World) (kv : Value) (g : FA B F w .line (.slice none 0 0) kv f.set f.left []) :
    Calls Try.prog 26 #[.pointer (some ⟨F, 0, none⟩), .string s] w fun e w' => ∃ kt, e = .returned (.agg #[.int .i64 (afterCmd f (parseC (words s))).1.c.kind, kt, .int .u32 (afterCmd f (parseC (words s))).1.c.flags, .int .i64 (afterCmd f (parseC (words s))).1.c.exp, .string ⟨#[]⟩, .bool (afterCmd f (parseC (words s))).1.c.quiet, .string (afterCmd f (parseC (words s))).1.c.reply]) ∧ Keys w' kt (afterCmd f (parseC (words s))).1.c.keys ∧ FeedAt B w' F (afterCmd f (parseC (words s))).2 ∧ Fr B F w w' := by
  have hP := fun w => Parse_any s hs w
  have hfit := fits_parse (words s)
  generalize parseC (words s) = pr at *
  obtain ⟨c, d⟩ := pr
  unfold afterCmd
  simp only
  by_cases h7 : c.kind = 7
  · rw [if_pos h7]
    refine (cmd_quit B F kv f.set f.left s c d (by simp [h7]) w g hP).mono ?_
    rintro e w' ⟨kt, rfl, h1, ⟨kv', h2⟩, h3⟩
    exact ⟨kt, rfl, h1, ⟨_, kv', h2⟩, h3⟩
  rw [if_neg h7]
  by_cases h2 : c.kind = 2
  · rw [if_pos h2]
    have hd : 0 ≤ d := by rcases hfit.1 with ⟨-, h, -⟩ | ⟨h, -⟩ | ⟨-, h⟩ <;> simp only at h <;> omega
    obtain ⟨n, rfl⟩ : ∃ n : Nat, d = (n : Int) := ⟨d.toNat, by omega⟩
    refine (cmd_set B F kv f.set f.left s c n (by simp [h7]) (by simp [h2]) w g hP).mono ?_
    rintro e w' ⟨kt, rfl, h1, ⟨kv', h2⟩, h3⟩
    exact ⟨kt, rfl, h1, ⟨_, kv', h2⟩, h3⟩
  rw [if_neg h2]
  by_cases h0 : 0 ≤ d
  · rw [if_pos h0]
    obtain ⟨n, rfl⟩ : ∃ n : Nat, d = (n : Int) := ⟨d.toNat, by omega⟩
    refine (cmd_pass B F kv f.set f.left s c n (by simp [h7]) (by simp [h2]) w g hP).mono ?_
    rintro e w' ⟨kt, rfl, h1, ⟨kv', h2⟩, h3⟩
    exact ⟨kt, rfl, h1, ⟨_, kv', h2⟩, h3⟩
  · rw [if_neg h0]
    refine (cmd_plain B F kv f.set f.left s c d (by simp [h7]) (by simp [h2]) h0 w g hP).mono ?_
    rintro e w' ⟨kt, rfl, h1, ⟨kv', h2⟩, h3⟩
    exact ⟨kt, rfl, h1, ⟨_, kv', h2⟩, h3⟩
theorem first_ten {x x' r r' : List UInt8} (h : x ++ 10 :: r = x' ++ 10 :: r') (hx : (10 : UInt8) ∉ x) (hx' : (10 : UInt8) ∉ x') : x'.length = x.length := by
  induction x generalizing x' with
  | nil =>
    cases x' with
    | nil => rfl
    | cons b t => simp at h; exact absurd (by simp [← h.1]) hx'
  | cons a t ih =>
    cases x' with
    | nil => simp at h; exact absurd (by simp [h.1]) hx
    | cons b t' =>
      simp at h
      simp [ih h.2 (fun e => hx (by simp [e])) (fun e => hx' (by simp [e]))]
theorem ix_cut {s : ByteArray} {x r : List UInt8} (hs : s.data.toList = x ++ 10 :: r) (hx : (10 : UInt8) ∉ x) {k : Nat} (hk : x.length + 1 ≤ k) : ix (s.extract 0 k) = (x.length : Int) := by
  unfold ix
  rw [ex_list, hs]
  have : ((x ++ 10 :: r).drop 0).take (k - 0) = x ++ 10 :: r.take (k - x.length - 1) := by
    rw [List.drop_zero, Nat.sub_zero, List.take_append, List.take_of_length_le (by omega : x.length ≤ k), show k - x.length = (k - x.length - 1) + 1 from by omega, List.take_succ_cons]
    simp
  rw [this]
  generalize r.take (k - x.length - 1) = t
  rcases ix_list (x ++ 10 :: t) with ⟨h, -⟩ | ⟨x', r', h1, h2, h3⟩
  · exact absurd (by simp) h
  · rw [h3]
    have := first_ten h1 hx h2
    rw [this]
theorem trimR_le (h : List UInt8) : (trimR h).length ≤ h.length := by
  unfold trimR
  split <;> simp
theorem app_list (a b : ByteArray) : (a ++ b).data.toList = a.data.toList ++ b.data.toList := by
  simp
theorem held_conv {B F : Nat} {w : World} {p : Pn} {a : Option Addr} {cap : Nat} {kv : Value} {st : Cm} {left : Nat} {h : List UInt8} (g : FA B F w p (.slice a h.length cap) kv st left h) : (convert 43 9 (.slice a h.length cap)).run Try.prog w = .ok (.string (ba h)) w := by
  obtain ⟨a', c', e, hc⟩ := held_text g.2.2.1
  cases e
  exact hc
theorem held_conv_heap {B F : Nat} {w u : World} {p : Pn} {a : Option Addr} {cap : Nat} {kv : Value} {st : Cm} {left : Nat} {h : List UInt8} (g : FA B F w p (.slice a h.length cap) kv st left h) (hu : u.heap = w.heap) : (convert 43 9 (.slice a h.length cap)).run Try.prog u = .ok (.string (ba h)) u := by
  have hH : Held B u (.slice a h.length cap) h := ⟨own_kept g.2.2.1.1 (fun b _ => by rw [hu]), g.2.2.1.2⟩
  obtain ⟨a', c', e, hc⟩ := held_text hH
  cases e
  exact hc
set_option maxHeartbeats 1600000 in
set_option maxRecDepth 100000 in
theorem line_end (B F : Nat) (f : Fd) (hok : okF f) (hp : f.p = .line) (s : ByteArray) (x r : List UInt8) (hs : s.data.toList = x ++ 10 :: r) (hx : (10 : UInt8) ∉ x) (hl : f.h.length + x.length ≤ 2048) (hsz : s.size ≤ 4294967296) (w : World) (hf : FeedAt B w F f) :
    Calls Try.prog 17 #[.pointer (some ⟨F, 0, none⟩), .string s] w (StepC B F f s w) := by
  obtain ⟨q1, q2, q3⟩ := split_at hs
  obtain ⟨m, hm⟩ : ∃ m, m = x.length := ⟨_, rfl⟩
  rw [← hm] at q1 q2 q3
  have hz := zero26
  obtain ⟨hv, kv, g⟩ := hf
  rw [hp] at g
  obtain ⟨ha, hcap, hhv, -⟩ := held_text g.2.2.1
  subst hhv
  obtain ⟨n, hn⟩ : ∃ n, n = f.h.length := ⟨_, rfl⟩
  have hn0 : n ≤ 2048 := by
    have h1 := hok.1
    simp only [absF, hp, okS] at h1
    omega
  have HX : Hid (At (w.alloc (.cells #[.int .i64 0, .slice none 0 0, .int .u32 0, .int .i64 0, .string ⟨#[]⟩, .bool false, .string ⟨#[]⟩] 38)) w.heap.size #[.int .i64 0, .slice none 0 0, .int .u32 0, .int .i64 0, .string ⟨#[]⟩, .bool false, .string ⟨#[]⟩] 38) := at_new _ _ _
  have HN : Hid (w.heap.size ≠ F) := by have := at_lt g.2.1; show _ ≠ _; omega
  have HR : Hid (Fr B F w (w.alloc (.cells #[.int .i64 0, .slice none 0 0, .int .u32 0, .int .i64 0, .string ⟨#[]⟩, .bool false, .string ⟨#[]⟩] 38))) := fr_alloc (fr_refl B F w) _
  have HY : Hid (∀ (u : World) (a0 a1 a2 a3 a4 a5 a6 : Value), Fr B F w u → Fr B F w (set7 u w.heap.size a0 a1 a2 a3 a4 a5 a6)) := fun u a0 a1 a2 a3 a4 a5 a6 h => fr_set7 h (Nat.le_refl _) _ _ _ _ _ _ _
  have HG := hid (fa_alloc g (.cells #[.int .i64 0, .slice none 0 0, .int .u32 0, .int .i64 0, .string ⟨#[]⟩, .bool false, .string ⟨#[]⟩] 38))
  rw [← hn] at HG
  obtain ⟨k, hk⟩ : ∃ k : Nat, min (s.size : Int) (2048 - (n : Int) + 1) = (k : Int) := ⟨(min (s.size : Int) (2048 - (n : Int) + 1)).toNat, by omega⟩
  have hk1 : (k : Int) ≤ (s.size : Int) := by omega
  have hkm : m + 1 ≤ k := by omega
  have HI : Hid (∀ w, Calls Try.prog 25 #[.string (s.extract 0 k), .int .u8 10] w fun e w' => e = .returned (.int .i64 (m : Int)) ∧ w' = w) := fun w => by
    have h1 := index_any (s.extract 0 k) w
    rw [ix_cut hs hx (by omega : x.length + 1 ≤ k), ← hm] at h1
    exact h1
  have hm1 : (m : Int) ≤ (s.size : Int) := by omega
  have hm3 : m ≤ 2048 := by omega
  have hm2 : (m : Int) + 1 ≤ (s.size : Int) := by omega
  have hS := so_line_end hok hp (r := r) hx hl
  have hA := after_ok hok (fits_line (f.h ++ x))
  have hbody : (afterCmd f (lineC (f.h ++ x))).1.body = mt := after_body _ _
  have HC0 : Hid (∀ (L : ByteArray), L.data.toList = trimR (f.h ++ x) → ∀ u kv, FA B F u .line (.slice none 0 0) kv f.set f.left [] → Calls Try.prog 26 #[.pointer (some ⟨F, 0, none⟩), .string L] u fun e w' => ∃ kt, e = .returned (.agg #[.int .i64 (afterCmd f (lineC (f.h ++ x))).1.c.kind, kt, .int .u32 (afterCmd f (lineC (f.h ++ x))).1.c.flags, .int .i64 (afterCmd f (lineC (f.h ++ x))).1.c.exp, .string ⟨#[]⟩, .bool (afterCmd f (lineC (f.h ++ x))).1.c.quiet, .string (afterCmd f (lineC (f.h ++ x))).1.c.reply]) ∧ Keys w' kt (afterCmd f (lineC (f.h ++ x))).1.c.keys ∧ FeedAt B w' F (afterCmd f (lineC (f.h ++ x))).2 ∧ Fr B F u w') := fun L hL u kv g => by
    have hLs : L.size ≤ 4294967296 := by
      have := trimR_le (f.h ++ x)
      rw [size_list, hL]
      simp at this
      omega
    have h1 := command_any B F f L hLs u kv g
    rw [show parseC (words L) = lineC (f.h ++ x) from by unfold lineC; rw [← hL, ba_data]] at h1
    exact h1
  rw [← hs] at hS
  rw [← q1] at hS
  generalize (afterCmd f (lineC (f.h ++ x))).2 = f' at *
  generalize (afterCmd f (lineC (f.h ++ x))).1 = td at *
  obtain ⟨tc, tb⟩ := td
  replace hbody : tb = mt := hbody
  subst hbody
  have HS := hid hS
  have HLs : Hid ((ba f.h ++ s.extract 0 m).data.toList = f.h ++ x) := by
    show _ = _
    rw [app_list, ba_list, q3]
  have hsum : n + m ≤ 4294967296 := by omega
  have hsz1 : (ba f.h).size = n := by rw [size_list, ba_list, hn]
  have hsz2 : (s.extract 0 m).size = m := by rw [size_list, q3, hm]
  have HT0 : Hid (∀ w, Calls Try.prog 27 #[.string (ba f.h ++ s.extract 0 m), .string ⟨#[13]⟩] w fun e w' => e = .returned (.string (ba (trimR (f.h ++ x)))) ∧ w' = w) := fun w => by
    have h1 := trim_any (ba f.h ++ s.extract 0 m) (by rw [size_list, HLs.out]; simp; omega) w
    rw [HLs.out] at h1
    exact h1
  have hcv := (held_conv (fa_alloc g (.cells #[.int .i64 0, .slice none 0 0, .int .u32 0, .int .i64 0, .string ⟨#[]⟩, .bool false, .string ⟨#[]⟩] 38))).trans rfl
  rw [← hn] at hcv
  have HCV : Hid (∀ u, u.heap = (w.alloc (.cells #[.int .i64 0, .slice none 0 0, .int .u32 0, .int .i64 0, .string ⟨#[]⟩, .bool false, .string ⟨#[]⟩] 38)).heap → (convert 43 9 (.slice ha n hcap)).run Try.prog u = .ok (.string (ba f.h)) u) := fun u hu => by
    have := held_conv_heap (fa_alloc g (.cells #[.int .i64 0, .slice none 0 0, .int .u32 0, .int .i64 0, .string ⟨#[]⟩, .bool false, .string ⟨#[]⟩] 38)) hu
    rw [← hn] at this
    exact this
  have HC1 := hid (HC0.out (ba (trimR (f.h ++ x))) (ba_list _))
  clear hs hx hl hsz q1 q2 q3 hm hkm hA hok hp g hS hn HLs HC0 hcv
  obtain ⟨c0, c1, c2, c3, c4, c5, c6, c7, c8, c9, cf⟩ := at_cells10 HG.out.2.1
  go_enter Try.func17, Try.ntmps17
  go_wp2_with fail
  generalize w.alloc (.cells #[.int .i64 0, .slice none 0 0, .int .u32 0, .int .i64 0, .string ⟨#[]⟩, .bool false, .string ⟨#[]⟩] 38) = wa at *
  generalize w.heap.size = X at *
  refine (HI.out _).mono ?_
  rintro e w1 ⟨rfl, hw⟩
  rw [hw]; clear hw w1
  have hcv := HCV.out wa.drew rfl
  have e0 : wa.drew.cell? ⟨F, 1, none⟩ = some (.slice ha n hcap) := c1
  go_wp2_with fail
  go_region
  go_wp2_with fail
  have HXu : Hid (At (wa.setCell ⟨F, 1, none⟩ (.slice none 0 0)).drew X #[.int .i64 0, .slice none 0 0, .int .u32 0, .int .i64 0, .string ⟨#[]⟩, .bool false, .string ⟨#[]⟩] 38) := at_drew (at_other HX.out HN.out _ _)
  have HRu : Hid (Fr B F w (wa.setCell ⟨F, 1, none⟩ (.slice none 0 0)).drew) := fr_drew (fr_set HR.out _ _)
  have HC := hid (HC1.out (wa.setCell ⟨F, 1, none⟩ (.slice none 0 0)).drew.drew _ (fa_drew (fa_drew (fa_drop HG.out))))
  clear HX HR HG HC1 HCV HI c0 c1 c2 c3 c4 c5 c6 c7 c8 c9 cf hcv e0 hk hsz1 hsz2 hsum
  generalize (wa.setCell ⟨F, 1, none⟩ (.slice none 0 0)).drew = u at *
  generalize ba f.h ++ s.extract 0 m = L at *
  refine wp_region_noPanic ?_
  refine wp_region_held_drew (S := (fun _ => True)) (by kernel_rfl) (trivial) (fun hHeld => ?_)
  refine wpAnyH_take (i := 0) (v := .string s) rfl (by kernel_rfl) (by kernel_rfl) (by kernel_rfl) (fun _ _ _ h => h) (Or.inl ⟨by rfl, fun w hSw => by (try dsimp only at hSw); go_simp⟩) (by assumption) ?_
  try simp only [List.getElem_toArray, List.getElem_cons_zero, List.getElem_cons_succ, Act.put, List.setIfInBounds_toArray, List.set_cons_zero, List.set_cons_succ]
  refine wpAnyH_take (i := 1) (v := .int .i64 (m : Int)) rfl (by kernel_rfl) (by kernel_rfl) (by kernel_rfl) (fun _ _ _ h => h) (Or.inl ⟨by rfl, fun w hSw => by (try dsimp only at hSw); go_simp⟩) (by assumption) ?_
  try simp only [List.getElem_toArray, List.getElem_cons_zero, List.getElem_cons_succ, Act.put, List.setIfInBounds_toArray, List.set_cons_zero, List.set_cons_succ]
  refine wpAnyH_take (i := 2) (v := .int .i64 ((m : Int) + 1)) rfl (by kernel_rfl) (by kernel_rfl) (by kernel_rfl) (fun _ _ _ h => h) (Or.inl ⟨by rfl, fun w hSw => by (try dsimp only at hSw); go_simp; exact wrapS (by omega) (by omega)⟩) (by assumption) ?_
  try simp only [List.getElem_toArray, List.getElem_cons_zero, List.getElem_cons_succ, Act.put, List.setIfInBounds_toArray, List.set_cons_zero, List.set_cons_succ]
  refine wpAnyH_take (i := 3) (v := .string (s.extract (m + 1) s.size)) rfl (by kernel_rfl) (by kernel_rfl) (by kernel_rfl) (fun _ _ _ h => h) (Or.inl ⟨by rfl, fun w hSw => by (try dsimp only at hSw); go_simp; exact fun hneg => absurd hneg (by omega)⟩) (by assumption) ?_
  try simp only [List.getElem_toArray, List.getElem_cons_zero, List.getElem_cons_succ, Act.put, List.setIfInBounds_toArray, List.set_cons_zero, List.set_cons_succ]
  refine wpAnyH_take (i := 4) (v := .pointer (some ⟨F, 0, none⟩)) rfl (by kernel_rfl) (by kernel_rfl) (by kernel_rfl) (fun _ _ _ h => h) (Or.inl ⟨by rfl, fun w hSw => by (try dsimp only at hSw); go_simp⟩) (by assumption) ?_
  try simp only [List.getElem_toArray, List.getElem_cons_zero, List.getElem_cons_succ, Act.put, List.setIfInBounds_toArray, List.set_cons_zero, List.set_cons_succ]
  refine wpAnyH_take (i := 5) (v := .string L) rfl (by kernel_rfl) (by kernel_rfl) (by kernel_rfl) (fun _ _ _ h => h) (Or.inl ⟨by rfl, fun w hSw => by (try dsimp only at hSw); go_simp⟩) (by assumption) ?_
  try simp only [List.getElem_toArray, List.getElem_cons_zero, List.getElem_cons_succ, Act.put, List.setIfInBounds_toArray, List.set_cons_zero, List.set_cons_succ]
  refine wpAnyH_ready (rs := [6]) (by kernel_rfl) (by simp) ?_
  refine AllReadyH.cons (i := 6) rfl (fun K hK => ?_) AllReadyH.nil
  go_simp
  refine (HT0.out _).mono ?_
  rintro e w3 ⟨rfl, rfl⟩
  show K _ _
  refine hK.out _ _ (trivial) (fun hHeld => ?_)
  clear hK K
  try simp only [List.getElem_toArray, List.getElem_cons_zero, List.getElem_cons_succ, Act.put, List.setIfInBounds_toArray, List.set_cons_zero, List.set_cons_succ]
  refine wpAnyH_ready (rs := [7]) (by kernel_rfl) (by simp) ?_
  refine AllReadyH.cons (i := 7) rfl (fun K hK => ?_) AllReadyH.nil
  go_simp
  refine HC.out.mono ?_
  rintro e w3 ⟨kt, rfl, hkt, hfd, hfr⟩
  have HX3 := hid (at_fr (at_drew HXu.out) hfr HN.out (by simp))
  have HR3 := hid (fr_trans HRu.out hfr)
  obtain ⟨kta, ktm, ktc, rfl⟩ := keys_slice hkt
  have HK3 := hid hkt
  obtain ⟨hv3, kv3, hfd⟩ := hfd
  have HG3 := hid hfd
  clear hkt hfd hfr
  show K _ _
  refine hK.out _ _ (trivial) (fun hHeld => ?_)
  clear hK K
  try simp only [List.getElem_toArray, List.getElem_cons_zero, List.getElem_cons_succ, Act.put, List.setIfInBounds_toArray, List.set_cons_zero, List.set_cons_succ]
  refine wpAnyH_take (i := 8) (v := .string (s.extract (m + 1) s.size)) rfl (by kernel_rfl) (by kernel_rfl) (by kernel_rfl) (fun _ _ _ h => h) (Or.inl ⟨by rfl, fun w hSw => by (try dsimp only at hSw); go_simp⟩) (by assumption) ?_
  try simp only [List.getElem_toArray, List.getElem_cons_zero, List.getElem_cons_succ, Act.put, List.setIfInBounds_toArray, List.set_cons_zero, List.set_cons_succ]
  obtain ⟨d0, d1, d2, d3, d4, d5, d6, df⟩ := at_cells7 HX3.out
  refine wpAnyH_ready (rs := [9]) (by kernel_rfl) (by simp) ?_
  refine AllReadyH.cons (i := 9) rfl (fun K hK => ?_) AllReadyH.nil
  go_simp
  show K _ _
  refine hK.out _ _ (trivial) (fun hHeld => ?_)
  clear hK K
  try simp only [List.getElem_toArray, List.getElem_cons_zero, List.getElem_cons_succ, Act.put, List.setIfInBounds_toArray, List.set_cons_zero, List.set_cons_succ]
  refine wpAnyH_done (by kernel_rfl) ?_ _
  refine NoPanic.normal ?_
  clear d0 d1 d2 d3 d4 d5 d6 df
  go_wp2_with fail
  refine bodyPost_ret (resT rfl _ rfl rfl (at_set7 HX3.out _ _ _ _ _ _ _)) rfl ?_
  exact ⟨_, ⟨tc, mt⟩, f', .slice kta ktm ktc, rfl, HS.out, ⟨_, _, fa_res HG3.out HX3.out _ _ _ _ _ _ _⟩, keys_set7' HK3.out HX3.out _ _ _ _ _ _ _, HY.out _ _ _ _ _ _ _ _ HR3.out⟩
end Go.Proofs.Ytjlojkcdglocbaa
