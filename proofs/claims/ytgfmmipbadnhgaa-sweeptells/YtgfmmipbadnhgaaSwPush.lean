/- The contract of the reference's Push; what the laws' great and the reference's Unlike let by. -/
import Derived.Test.YtgfmmipbadnhgaaSwSum
import Derived.Deep.DeepMust
import Derived.Deep.Upon
namespace Go.Proofs.Ytgfmmipbadnhgaa
open Go.ChangeShapes Go.WideShapes Go.ChangeAt Go.RowKit
set_option linter.unusedVariables false
set_option linter.unusedSimpArgs false
set_option maxRecDepth 100000

theorem push_next {l : List R} {k : Nat} {x : R} (h : l[k]? = some x) (t : List Sn) : push (l.take (k + 1)) t = push (l.take k) t ++ (if cov t (seen x) then [] else [x]) := by
  unfold push
  rw [take_next h, List.filter_append]
  congr 1
  cases e : cov t (seen x) <;> simp [e]
theorem push_len (l : List R) (t : List Sn) : (push l t).length ≤ l.length := List.length_filter_le _ _
set_option maxHeartbeats 3200000 in
theorem rpush_any (l : List R) (t : List Sn) (hn : l.length ≤ 2000) (ht : t.length ≤ 4096) (v u : Value) (w : World) (h : Rg encR 8 w v l) (hu : Rg encS 5 w u t) : Calls Try.prog 15 #[v, u] w (GRowN encR 8 41 (push l t) w) := by
  have HR := hid h
  have HU := hid hu
  obtain ⟨a, cap, rfl, -, -, -, -⟩ := h
  have HG : Hid (∀ k, k < l.length → ∃ y, l[k]? = some y) := hid (fun k hk => ⟨l[k], List.getElem?_eq_getElem hk⟩)
  have HP : Hid (0 < l.length → ∃ g o, a = some ⟨g, o, none⟩) := hid (fun hp => by
    obtain ⟨g, o, c, e⟩ := rg_pos HR.out hp
    injection e with e1
    exact ⟨g, o, e1⟩)
  have HT : Hid (l.take l.length = l) := hid List.take_length
  have HEnd : Hid (∀ v u, Og encR 8 41 u w.heap.size v (push l t) → v ≠ .slice none 0 0 → Kept w u → GRowN encR 8 41 (push l t) w (.returned v) u) := hid (fun v u h1 h2 h3 => ⟨v, rfl, h1, h2, h3⟩)
  have HO0 := hid (builtR w)
  have HK0 := hid (kept_alloc (kept_refl w) (.cells #[] 41))
  have HLt : Hid (∀ k, (push (l.take k) t).length ≤ 2000) := hid (fun k => by have := push_len (l.take k) t; rw [List.length_take] at this; omega)
  have HSl : Hid ((sums l).length = l.length) := hid (sums_len l)
  have HCv := hid (fun x u' (h : Rg encS 5 u' u t) => covered_any t ht u x u' h)
  have HSm := hid (fun u' (h : Rg encR 8 u' (.slice a l.length cap) l) => rsum_any l hn _ u' h)
  generalize hnn : l.length = n at *
  clear hnn hu
  go_enter Try.func15, Try.ntmps15
  go_wp2_with fail
  generalize w.alloc (.cells #[] 41) = w0 at *
  refine (HSm.out _ (rg_kept encR_ok HR.out HK0.out)).mono ?_
  rintro e w1 ⟨v1, rfl, o1, n1, k1⟩
  have HS1 := hid o1
  have HO1 := hid (og_stays HO0.out k1)
  have HK1 := hid (kept_trans HK0.out k1)
  obtain ⟨g1, c1, e1⟩ := og_some o1 n1
  subst e1
  rw [HSl.out] at HS1 ⊢
  clear o1 n1 k1 HO0 HK0 HSm
  go_wp2_with fail
  generalize w0.heap.size = B1 at *
  generalize hB0 : w.heap.size = B0 at *
  have HB0 := hid hB0
  clear hB0
  go_loopw [5, 13] (fun ks j wr => ∃ k : Nat, k ≤ n ∧ j = .int .i64 (k : Int) ∧ Hid (Og encR 8 41 wr B0 ks (push (l.take k) t)) ∧ Hid (ks ≠ .slice none 0 0) ∧ Hid (Og encS 5 43 wr B1 (.slice (some ⟨g1, 0, none⟩) n c1) (sums l)) ∧ Hid (Kept w wr)) (fun _ j _ => n - (intOf j).toNat)
  case atStart => exact ⟨0, Nat.zero_le _, rfl, HO1, hid (by simp), HS1, HK1⟩
  case round =>
    obtain ⟨k, hk, rfl, HO, HNn, HSr, HKr⟩ := hrel
    clear HO1 HS1 HK1
    by_cases hlt : k < n
    · obtain ⟨x, hx⟩ := HG.out k hlt
      obtain ⟨g, o, rfl⟩ := HP.out (by omega)
      have HNx := hid (push_next hx t)
      have HHx := hid hx
      obtain ⟨s0, s1, s2, s3, s4⟩ := rg_S (rg_own encS_ok HSr.out) (sums_get hx)
      have s0' : wr.cell? ⟨g1, k * 5, none⟩ = some (.string x.key) := by rw [Nat.zero_add] at s0; exact s0
      have s1' : wr.cell? ⟨g1, k * 5 + 1, none⟩ = some (.int .u64 x.s.p) := by rw [Nat.zero_add] at s1; exact s1
      have s2' : wr.cell? ⟨g1, k * 5 + 2, none⟩ = some (.int .u32 x.s.l) := by rw [Nat.zero_add] at s2; exact s2
      have s3' : wr.cell? ⟨g1, k * 5 + 3, none⟩ = some (.int .u8 x.s.n) := by rw [Nat.zero_add] at s3; exact s3
      have s4' : wr.cell? ⟨g1, k * 5 + 4, none⟩ = some (.int .u8 x.kind) := by rw [Nat.zero_add] at s4; exact s4
      have hC := HCv.out (seen x) wr (rg_kept encS_ok HU.out HKr.out)
      clear s0 s1 s2 s3 s4 hx
      go_wp2_with fail
      refine hC.mono ?_
      rintro e w2 ⟨rfl, k2⟩
      have HO2 := hid (og_stays HO.out k2)
      have HS2 := hid (og_stays HSr.out k2)
      have HK2 := hid (kept_trans HKr.out k2)
      clear s0' s1' s2' s3' s4' hC k2 HO HSr HKr
      cases hc : cov t (seen x) with
      | true =>
        rw [hc, if_pos rfl, List.append_nil] at HNx
        go_wp2_with fail
        go_roundw
        case rel => exact ⟨k + 1, by omega, by go_num, hid (by rw [HNx.out]; exact HO2.out), HNn, HS2, HK2⟩
        case measure => simp [intOf]; omega
      | false =>
        rw [hc, if_neg (by simp)] at HNx
        obtain ⟨c0, c1', c2, c3, c4, c5, c6, c7⟩ := rg_R (rg_kept encR_ok HR.out HK2.out) HHx.out
        have HKa := hid (kept_alloc HK2.out (.cells #[.string x.key, .int .u64 x.s.p, .int .u32 x.s.l, .int .u8 x.s.n, .int .u8 x.kind, .int .u32 x.flags, .int .u64 x.exp, .string x.body] 41))
        have HOa := hid (og_stays HO2.out (kept_alloc (kept_refl w2) (.cells #[.string x.key, .int .u64 x.s.p, .int .u32 x.s.l, .int .u8 x.s.n, .int .u8 x.kind, .int .u32 x.flags, .int .u64 x.exp, .string x.body] 41)))
        have HSa := hid (og_stays HS2.out (kept_alloc (kept_refl w2) (.cells #[.string x.key, .int .u64 x.s.p, .int .u32 x.s.l, .int .u8 x.s.n, .int .u8 x.kind, .int .u32 x.flags, .int .u64 x.exp, .string x.body] 41)))
        have HAl := hid (rg_alone encR_ok (y := x) (at_new w2 #[.string x.key, .int .u64 x.s.p, .int .u32 x.s.l, .int .u8 x.s.n, .int .u8 x.kind, .int .u32 x.flags, .int .u64 x.exp, .string x.body] 41))
        have HBw : Hid (B0 ≤ (w2.alloc (.cells #[.string x.key, .int .u64 x.s.p, .int .u32 x.s.l, .int .u8 x.s.n, .int .u8 x.kind, .int .u32 x.flags, .int .u64 x.exp, .string x.body] 41)).heap.size) := hid (by have := HKa.out.2; have := HB0.out; omega)
        go_wp2_with (at_builtin; go_must (refine wpList_gapp rfl (.tmp 23) (.tmp 28) rfl encR_ok tyR (by decide) B0 _ _ _ _ rfl HOa.out rfl HAl.out (by have := HLt.out k; simp; omega) HBw.out ?_; intro v3 w3 hown3 hgrow3 hnil3))
        have HO3 : Hid (Og encR 8 41 w3 B0 v3 (push (l.take (k + 1)) t)) := hid (by rw [HNx.out]; exact hown3)
        have HS3 := hid (og_beside HSa.out HOa.out (by decide) hgrow3)
        have HK3 := hid (kept_gr HKa.out hgrow3 (fun j hj => by have := og_lt HOa.out hj; have := HB0.out; omega))
        go_roundw
        case rel => exact ⟨k + 1, by omega, by go_num, HO3, hid (hnil3 HNn.out), HS3, HK3⟩
        case measure => simp [intOf]; omega
    · have he : k = n := by omega
      subst he
      rw [HT.out] at HO
      go_wp2_with fail
      go_ret
      exact HEnd.out _ _ HO.out HNn.out HKr.out
end Go.Proofs.Ytgfmmipbadnhgaa
