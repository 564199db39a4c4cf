/- The contract of the statements' own take: a stream, however it is cut, comes to what Take of the whole comes to. -/
import Derived.Test.YtjlojkcdglocbaaFeedTwo
namespace Go.Proofs.Ytjlojkcdglocbaa
open Go.ChangeShapes Go.WideShapes Go.ChangeAt Go.RowKit
set_option linter.unusedVariables false
set_option linter.unusedSimpArgs false

theorem row_fr {B F : Nat} {w w' : World} {oa : Option Addr} {len b o : Nat} {S : Nat → Value} (h : Row w oa len b o S) (g : Fr B F w w') (hb : 0 < len → b < B) (hF : B ≤ F) : Row w' oa len b o S :=
  ⟨h.1, fun hl => ⟨(h.2.1 hl).1, Nat.lt_of_lt_of_le (h.2.1 hl).2 g.2.2.1⟩, fun i hi => (World.cell?_of_block (w := w) (a := ⟨b, o + i, none⟩) (g.2.2.2 b (h.2.1 (by omega)).2 (by have := hb (by omega); omega) (.inl (hb (by omega))))).trans (h.2.2 i hi)⟩
theorem cut_list (s : ByteArray) (n : Nat) (hn : n ≤ s.size) : (s.extract 0 n).data.toList ++ (s.extract n s.size).data.toList = s.data.toList := (cut_parts s n hn).1
set_option maxHeartbeats 3200000 in
set_option maxRecDepth 100000 in
theorem take_any (B F : Nat) (f0 : Fd) (hok0 : okF f0) (s0 : ByteArray) (hsz : s0.size ≤ 20000) (oa : Option Addr) (len cap b o : Nat) (Z : Nat → Int) (w : World) (hf0 : FeedAt B w F f0) (hr : Row w oa len b o (fun i => .int .u16 (Z i))) (hZ : ∀ i, 0 ≤ Z i ∧ Z i < 65536) (hb : 0 < len → b < B) (hl : len ≤ 500) :
    Calls Try.prog 10 #[.pointer (some ⟨F, 0, none⟩), .string s0, .slice oa len cap] w (TakeC B F f0 s0 w) := by
  have HF0 := hid hf0
  have HK0 := hid hok0
  have HZ0 := hid hsz
  have HR := hid hr
  have HZ := hid hZ
  have HBb := hid hb
  have HFB := hid (feed_at hf0).1
  have HL := hid hl
  clear hf0 hok0 hsz hr hZ hb hl
  go_enter Try.func10, Try.ntmps10
  go_wp2_with fail
  go_loopw [1, 7, 13] (fun v1 v7 v13 wr => ∃ (k : Nat) (s : ByteArray) (f : Fd) (ps : List (Td × Value)), k ≤ len ∧ v13 = .int .i64 (k : Int) ∧ v1 = .string s ∧ Hid (RowP w.heap.size wr v7 ps) ∧ Hid (FeedAt B wr F f) ∧ Hid (okF f) ∧ Hid (s.size ≤ s0.size) ∧ Hid (Fr B F w wr) ∧ Hid (runB (absF f0) s0.data.toList = (ps.map Prod.fst ++ (runB (absF f) s.data.toList).1, (runB (absF f) s.data.toList).2))) (fun v1 v7 v13 wr => len - (intOf v13).toNat)
  case atStart => exact ⟨0, s0, f0, [], Nat.zero_le _, rfl, rfl, rowp_nil _ _, HF0, HK0, Nat.le_refl _, fr_refl B F w, by show _ = _; simp⟩
  case round =>
    obtain ⟨k, s, f, ps, hk, rfl, rfl, HRow, HFd, HOk, HSz, HFr, HRun⟩ := hrel
    obtain ⟨-, ⟨csF, HFA⟩, HFT⟩ := feed_at HFd.out
    have HFA := hid HFA
    have HFT := hid HFT
    have HBs : Hid (w.heap.size ≤ wr.heap.size) := HFr.out.2.2.1
    have HS2 : Hid (s.size ≤ 20000) := Nat.le_trans HSz.out HZ0.out
    have HLn : Hid (∀ (x y : List UInt8) (l : List Td) (m : Nat), s.data.toList = x ++ y → l.length = m → l = (runB (absF f) x).1 → ps.length + m ≤ 4294967300) := fun x y l m hxy hlm hle => by
      have h1 := run_few f0 HK0.out s0.data.toList HRun.out
      rw [hxy, runB_append] at h1
      have h2 := HZ0.out
      rw [← size_list] at h1
      simp at h1
      rw [← hle] at h1
      omega
    by_cases hlt : k < len
    · have hRk := row_fr HR.out HFr.out HBb.out HFB.out
      have hc : wr.cell? ⟨b, o + k, none⟩ = some (.int .u16 (Z k)) := hRk.2.2 k hlt
      obtain ⟨hoa, hbl⟩ := hRk.2.1 (by omega)
      have hz := HZ.out k
      have h2 : (k : Int) < (len : Int) := by omega
      have hk5 : k < 500 := by have := HL.out; omega
      clear hRk
      generalize Z k = z at *
      obtain ⟨zn, rfl⟩ : ∃ zn : Nat, z = (zn : Int) := ⟨z.toNat, by omega⟩
      subst hoa
      have hzn : zn < 65536 := by omega
      obtain ⟨m, hm⟩ : ∃ m : Nat, m = min zn s.size := ⟨_, rfl⟩
      have hmin : min (zn : Int) (s.size : Int) = (m : Int) := by omega
      have hms : m ≤ s.size := by omega
      have hms' : (m : Int) ≤ (s.size : Int) := by omega
      have HCut := hid (cut_list s m hms)
      have HYs : Hid ((s.extract m s.size).size ≤ s.size) := by show _ ≤ _; have h1 := (cut_parts s m hms).2.2; rw [← size_list] at h1; omega
      have HXs : Hid ((s.extract 0 m).size ≤ s.size) := by show _ ≤ _; have h1 := (cut_parts s m hms).2.1; rw [← size_list] at h1; omega
      clear hm hz hms
      go_wp2_with fail
      refine (Take_any B F f HOk.out (s.extract 0 m) (by have := HXs.out; have := HS2.out; omega) _ HFd.out).mono ?_
      rintro e w3 ⟨v3, f3, rfl, r3, g3, o3, a3, t3⟩
      obtain ⟨qs, eq, r3⟩ := r3
      have hRow3 := rowp_fr HRow.out t3 HFA.out HFT.out
      have hlen := HLn.out _ _ _ qs.length HCut.out.symm (by rw [← eq]; simp) rfl
      obtain ⟨v4, w4, hap, hrow4, hgr⟩ := row_join hRow3 r3 (Nat.le_trans HBs.out t3.2.2.1) hlen
      have HAp := hid hap
      have HRow4 := hid hrow4
      have HFr4 := hid (fr_grown hRow3 hgr (fr_trans HFr.out t3) (Nat.le_refl _))
      have HF4 := hid (feed_grown hRow3 hgr g3)
      have HO4 := hid o3
      have HRun4 : Hid (runB (absF f0) s0.data.toList = ((ps ++ qs).map Prod.fst ++ (runB (absF f3) (s.extract m s.size).data.toList).1, (runB (absF f3) (s.extract m s.size).data.toList).2)) := by
        show _ = _
        rw [HRun.out]
        conv => lhs; rw [← HCut.out]
        rw [runB_append, a3, List.map_append, eq, List.append_assoc]
      have HSz4 : Hid ((s.extract m s.size).size ≤ s0.size) := Nat.le_trans HYs.out HSz.out
      clear eq r3 g3 o3 a3 t3 hRow3 hlen hap hrow4 hgr HRow HFd HOk HFr HRun HFA HFT HBs HCut HYs HXs
      go_wp2_with (at_builtin; refine wpList_run rfl (.tmp 22) (.tmp 27) 26 26 rfl _ _ v4 rfl rfl HAp.out ?_)
      go_roundw
      case rel => exact ⟨k + 1, _, f3, ps ++ qs, by omega, by go_num, rfl, HRow4, HF4, HO4, HSz4, HFr4, HRun4⟩
      case measure => simp [intOf]; omega
    · have he : k = len := by omega
      subst he
      go_wp2_with fail
      refine (Take_any B F f HOk.out s (by have := HS2.out; omega) _ HFd.out).mono ?_
      rintro e w3 ⟨v3, f3, rfl, r3, g3, o3, a3, t3⟩
      obtain ⟨qs, eq, r3⟩ := r3
      have hRow3 := rowp_fr HRow.out t3 HFA.out HFT.out
      have hlen := HLn.out s.data.toList [] _ qs.length (by simp) (by rw [← eq]; simp) rfl
      obtain ⟨v4, w4, hap, hrow4, hgr⟩ := row_join hRow3 r3 (Nat.le_trans HBs.out t3.2.2.1) hlen
      have HAp := hid hap
      have HFr4 := hid (fr_grown hRow3 hgr (fr_trans HFr.out t3) (Nat.le_refl _))
      have HF4 := hid (feed_grown hRow3 hgr g3)
      have HO4 := hid o3
      have HRow4 : Hid (RowC w.heap.size w4 v4 (runB (absF f0) s0.data.toList).1) := ⟨ps ++ qs, by rw [HRun.out, List.map_append, eq], hrow4⟩
      have HA4 : Hid (absF f3 = (runB (absF f0) s0.data.toList).2) := by show _ = _; rw [HRun.out, a3]
      clear eq r3 g3 o3 a3 t3 hRow3 hlen hap hrow4 hgr HRow HFd HOk HFr HRun HFA HFT HBs
      go_wp2_with (at_builtin; refine wpList_run rfl (.tmp 33) (.tmp 36) 26 26 rfl _ _ v4 rfl rfl HAp.out ?_)
      go_ret
      exact ⟨v4, f3, rfl, HRow4.out, HF4.out, HO4.out, HA4.out, HFr4.out⟩
end Go.Proofs.Ytjlojkcdglocbaa
