/- The contracts of Get and Purge, of Len, Size, Evicted, Floor and Digest, over a store as a plain row of records; of all of these of a nil store. A key has at most 1000 bytes; the store has at most 500 records. -/
import Derived.Test.YthgbdaladngpdaaGreatStoApi
namespace Go.Proofs.YthgbdaladngpdaaGreat
open Go.ChangeShapes Go.WideShapes Go.ChangeAt Go.RowKit
open Go.Proofs.YthgbdaladngpdaaGreat.Whl (Tn tn_kept tn_refl tn_trans tn_set tn_alloc at_tn kept_tn It)
set_option linter.unusedVariables false
set_option linter.unusedSimpArgs false
set_option maxRecDepth 100000

section
variable {F : Nat → Prop} {X : Nat} {c : Cf} {s : MS}
theorem len_st (w : World) (h : St w F X c s) : Calls Tryz.prog 22 #[.pointer (some ⟨X, 0, none⟩)] w fun e w' => e = .returned (.int .i64 (s.L.length : Int)) ∧ w' = w := by
  obtain ⟨pl, l, ⟨f, M, a, hm, hco⟩, hL⟩ := h
  have := slen_any w hm
  rw [hL, List.length_map]
  exact this
theorem size_st (w : World) (h : St w F X c s) : Calls Tryz.prog 23 #[.pointer (some ⟨X, 0, none⟩)] w fun e w' => e = .returned (.int .i64 (sizeL s.L : Int)) ∧ w' = w := by
  obtain ⟨pl, l, ⟨f, M, a, hm, hco⟩, hL⟩ := h
  rw [hL]
  exact ssize_any w hm
theorem ev_st (w : World) (h : St w F X c s) : Calls Tryz.prog 25 #[.pointer (some ⟨X, 0, none⟩)] w fun e w' => e = .returned (.int .i64 (s.ev : Int)) ∧ w' = w := by
  obtain ⟨pl, l, ⟨f, M, a, hm, hco⟩, hL⟩ := h
  exact sev_any w hm
theorem floor_st (k : Nat) (hk : k < 64) (w : World) (h : St w F X c s) : Calls Tryz.prog 26 #[.pointer (some ⟨X, 0, none⟩), .int .i64 (k : Int)] w fun e w' => e = .returned (.agg #[.int .u64 (s.fl k).p, .int .u32 (s.fl k).l, .int .u8 (s.fl k).n]) ∧ Kept w w' := by
  obtain ⟨pl, l, ⟨f, M, a, hm, hco⟩, hL⟩ := h
  exact sfloor_any k hk w hm
theorem dig_st (k : Nat) (hk : k < 64) (w : World) (h : St w F X c s) : Calls Tryz.prog 27 #[.pointer (some ⟨X, 0, none⟩), .int .i64 (k : Int)] w fun e w' => e = .returned (.int .u64 (digL k s.L : Int)) ∧ w' = w := by
  obtain ⟨pl, l, ⟨f, M, a, hm, hco⟩, hL⟩ := h
  rw [hL]
  exact sdig_any k hk w hm
end
theorem tn_set8 {F : Nat → Prop} {u w : World} (h : Tn F u w) {X : Nat} (hX : F X ∨ u.heap.size ≤ X) (a0 a1 a2 a3 a4 a5 a6 a7 : Value) : Tn F u (set8 w X a0 a1 a2 a3 a4 a5 a6 a7) :=
  tn_set (tn_set (tn_set (tn_set (tn_set (tn_set (tn_set (tn_set h hX _ _) hX _ _) hX _ _) hX _ _) hX _ _) hX _ _) hX _ _) hX _ _
set_option maxHeartbeats 1600000 in
theorem get_none {F : Nat → Prop} {X : Nat} {c : Cf} {s : MS} (hc : c.may) (k : ByteArray) (hk : k.size ≤ 1000) (hf : findK s.L k = none) (w : World) (h : St w F X c s) :
    Calls Tryz.prog 16 #[.pointer (some ⟨X, 0, none⟩), .string k] w fun e w' => e = .returned (.tuple #[.agg #[.string zeroR.key, .int .u64 zeroR.s.p, .int .u32 zeroR.s.l, .int .u8 zeroR.s.n, .int .u8 zeroR.kind, .int .u32 zeroR.flags, .int .u64 zeroR.exp, .string zeroR.body], .bool false]) ∧ Kept w w' := by
  have hz := zero27
  have hP0 := fun u (hu : St u F X c s) => peek_none k hk hf u hu
  have A1 := at_new w #[.string zeroR.key, .int .u64 zeroR.s.p, .int .u32 zeroR.s.l, .int .u8 zeroR.s.n, .int .u8 zeroR.kind, .int .u32 zeroR.flags, .int .u64 zeroR.exp, .string zeroR.body] 42
  have K1 := kept_alloc (kept_refl w) (.cells #[.string zeroR.key, .int .u64 zeroR.s.p, .int .u32 zeroR.s.l, .int .u8 zeroR.s.n, .int .u8 zeroR.kind, .int .u32 zeroR.flags, .int .u64 zeroR.exp, .string zeroR.body] 42)
  obtain ⟨q, hq⟩ : ∃ q, zeroR = q := ⟨_, rfl⟩
  rw [hq] at hP0
  rw [hq]
  clear hq
  simp only [zeroR, zero] at A1 K1
  obtain ⟨w1, hw1⟩ : ∃ w1, w.alloc (.cells #[.string ⟨#[]⟩, .int .u64 0, .int .u32 0, .int .u8 0, .int .u8 0, .int .u32 0, .int .u64 0, .string ⟨#[]⟩] 42) = w1 := ⟨_, rfl⟩
  obtain ⟨Y, hY⟩ : ∃ Y, w.heap.size = Y := ⟨_, rfl⟩
  rw [hw1] at A1 K1
  rw [hY] at A1
  have hP := hP0 w1 (st_kept h K1)
  have HA1 := hid A1
  have HK1 := hid K1
  have HYl := hid (Nat.le_of_eq hY)
  clear h A1 K1 hf hP0
  go_enter Tryz.func16, Tryz.ntmps16
  go_wp2_with fail
  refine hP.mono ?_
  rintro e w2 ⟨rfl, k2⟩
  have HK2 := hid (kept_trans HK1.out k2)
  have HA2 := hid (at_kept HA1.out k2)
  clear k2 hP HA1 HK1 hw1
  have A3 := at_new w2 #[.string q.key, .int .u64 q.s.p, .int .u32 q.s.l, .int .u8 q.s.n, .int .u8 q.kind, .int .u32 q.flags, .int .u64 q.exp, .string q.body] 42
  have K3 := kept_alloc (kept_refl w2) (.cells #[.string q.key, .int .u64 q.s.p, .int .u32 q.s.l, .int .u8 q.s.n, .int .u8 q.kind, .int .u32 q.flags, .int .u64 q.exp, .string q.body] 42)
  obtain ⟨w3, hw3⟩ : ∃ w3, w2.alloc (.cells #[.string q.key, .int .u64 q.s.p, .int .u32 q.s.l, .int .u8 q.s.n, .int .u8 q.kind, .int .u32 q.flags, .int .u64 q.exp, .string q.body] 42) = w3 := ⟨_, rfl⟩
  obtain ⟨Z, hZ⟩ : ∃ Z, w2.heap.size = Z := ⟨_, rfl⟩
  rw [hw3] at A3 K3
  rw [hZ] at A3
  have HK3 := hid (kept_trans HK2.out K3)
  have HA3 := hid (at_kept HA2.out K3)
  obtain ⟨z0, z1, z2, z3, z4, z5, z6, z7, zf⟩ := at_cells8 A3
  obtain ⟨d0, d1, d2, d3, d4, d5, d6, d7, df⟩ := at_cells8 HA3.out
  have E1 := hid (at_set8 HA3.out (.string q.key) (.int .u64 q.s.p) (.int .u32 q.s.l) (.int .u8 q.s.n) (.int .u8 q.kind) (.int .u32 q.flags) (.int .u64 q.exp) (.string q.body))
  have E2 := hid (kept_set8 HK3.out HYl.out (.string q.key) (.int .u64 q.s.p) (.int .u32 q.s.l) (.int .u8 q.s.n) (.int .u8 q.kind) (.int .u32 q.flags) (.int .u64 q.exp) (.string q.body))
  simp only [set8] at E1 E2
  clear HA2 HK2 A3 K3 HA3 HK3
  go_wp2_with fail
  exact bodyPost_ret (res2r Tryz.results16 _ rfl rfl E1.out) rfl ⟨rfl, E2.out⟩
set_option maxHeartbeats 1600000 in
theorem get_some {F : Nat → Prop} {X : Nat} {c : Cf} {s : MS} (hc : c.may) (k : ByteArray) (hk : k.size ≤ 1000) (q : R) (hf : findK s.L k = some q) (w : World) (h : St w F X c s) :
    Calls Tryz.prog 16 #[.pointer (some ⟨X, 0, none⟩), .string k] w fun e w' => e = .returned (.tuple #[.agg #[.string q.key, .int .u64 q.s.p, .int .u32 q.s.l, .int .u8 q.s.n, .int .u8 q.kind, .int .u32 q.flags, .int .u64 q.exp, .string q.body], .bool true]) ∧ Tn F w w' ∧ St w' F X c (getS s k) := by
  have hz := zero27
  have HLow : Hid (¬ F w.heap.size) := hid (fun hf => by have := st_low h _ hf; omega)
  have A1 := at_new w #[.string zeroR.key, .int .u64 zeroR.s.p, .int .u32 zeroR.s.l, .int .u8 zeroR.s.n, .int .u8 zeroR.kind, .int .u32 zeroR.flags, .int .u64 zeroR.exp, .string zeroR.body] 42
  have K1 := kept_alloc (kept_refl w) (.cells #[.string zeroR.key, .int .u64 zeroR.s.p, .int .u32 zeroR.s.l, .int .u8 zeroR.s.n, .int .u8 zeroR.kind, .int .u32 zeroR.flags, .int .u64 zeroR.exp, .string zeroR.body] 42)
  simp only [zeroR, zero] at A1 K1
  obtain ⟨w1, hw1⟩ : ∃ w1, w.alloc (.cells #[.string ⟨#[]⟩, .int .u64 0, .int .u32 0, .int .u8 0, .int .u8 0, .int .u32 0, .int .u64 0, .string ⟨#[]⟩] 42) = w1 := ⟨_, rfl⟩
  obtain ⟨Y, hY⟩ : ∃ Y, w.heap.size = Y := ⟨_, rfl⟩
  rw [hw1] at A1 K1
  rw [hY] at A1 HLow
  have HS1 := hid (st_kept h K1)
  have hP := peek_some hc k hk q hf w1 HS1.out
  have HA1 := hid A1
  have HK1 := hid K1
  have HYl := hid (Nat.le_of_eq hY)
  have HF0 := hid hf
  clear h A1 K1 hf
  go_enter Tryz.func16, Tryz.ntmps16
  go_wp2_with fail
  refine hP.mono ?_
  rintro e w2 ⟨rfl, k2⟩
  have HK2 := hid (kept_trans HK1.out k2)
  have HA2 := hid (at_kept HA1.out k2)
  have HS2 := hid (st_kept HS1.out k2)
  clear k2 hP HA1 HK1 hw1 HS1
  have A3 := at_new w2 #[.string q.key, .int .u64 q.s.p, .int .u32 q.s.l, .int .u8 q.s.n, .int .u8 q.kind, .int .u32 q.flags, .int .u64 q.exp, .string q.body] 42
  have K3 := kept_alloc (kept_refl w2) (.cells #[.string q.key, .int .u64 q.s.p, .int .u32 q.s.l, .int .u8 q.s.n, .int .u8 q.kind, .int .u32 q.flags, .int .u64 q.exp, .string q.body] 42)
  obtain ⟨w3, hw3⟩ : ∃ w3, w2.alloc (.cells #[.string q.key, .int .u64 q.s.p, .int .u32 q.s.l, .int .u8 q.s.n, .int .u8 q.kind, .int .u32 q.flags, .int .u64 q.exp, .string q.body] 42) = w3 := ⟨_, rfl⟩
  obtain ⟨Z, hZ⟩ : ∃ Z, w2.heap.size = Z := ⟨_, rfl⟩
  have HLz : Hid (¬ F w2.heap.size) := hid (fun hf => by have := st_low HS2.out _ hf; omega)
  rw [hw3] at A3 K3
  rw [hZ] at A3 HLz
  have HK3 := hid (kept_trans HK2.out K3)
  have HA3 := hid (at_kept HA2.out K3)
  have HZ3 := hid A3
  obtain ⟨pl, l, ⟨f, M, a, hm0, hco⟩, hL⟩ := st_kept HS2.out K3
  have hm := hm0
  obtain ⟨i, hi, hfk, hpq, hki⟩ : ∃ i ∈ l, f k = some (i : Int) ∧ pl i = q ∧ q.key = k := by
    have hf := HF0.out
    rw [hL] at hf
    obtain ⟨q1, q2⟩ := find_some hf
    obtain ⟨i, hi, e⟩ := List.mem_map.1 q1
    exact ⟨i, hi, (hco.map k (i : Int)).2 ⟨i, hi, rfl, by rw [e]; exact q2⟩, e, q2⟩
  have hin : i < c.n := hco.low i hi
  have hkm : k.size ≤ maxLen := by unfold maxLen; omega
  have hGet := Slo.get_any k hkm w3 hm.tab
  rw [Slo.valI_mp, Slo.taken_mp, hm.mp, hfk] at hGet
  have hGet2 : Calls Tryz.prog 38 #[.pointer (some ⟨a.Xt, 0, none⟩), .string k] w3 fun e w' => e = .returned (.tuple #[.int .i64 (i : Int), .bool true]) ∧ Kept w3 w' := hGet
  obtain ⟨⟨_, c1, _⟩, _⟩ := sm_cells hm
  have HM := hid hm
  have HEnd : Hid (∀ u, Sm u F X c pl (i :: less l i) f M s.fl (fun j => digL j (l.map pl)) (sizeL (l.map pl)) s.ev l.length a → St u F X c (getS s k)) := hid (fun u hu => by
    have hpm := coh_perm hco hi
    have e1 : (i :: less l i).map pl = pl i :: (less l i).map pl := rfl
    have e2 : ∀ j, digL j (l.map pl) = digL j ((i :: less l i).map pl) := fun j => digL_perm j (by rw [e1]; exact hpm)
    have e3 : sizeL (l.map pl) = sizeL ((i :: less l i).map pl) := sizeL_perm (by rw [e1]; exact hpm)
    have e4 : l.length = (i :: less l i).length := by
      have := hpm.length_eq
      simpa using this
    have e5 : getS s k = ⟨q :: woK s.L k, s.fl, s.ev⟩ := by unfold getS; rw [HF0.out]
    have hu2 := hu
    rw [e3, e4, show (fun j => digL j (l.map pl)) = fun j => digL j ((i :: less l i).map pl) from funext e2] at hu2
    rw [e5]
    refine ⟨pl, i :: less l i, ⟨f, M, a, hu2, coh_use hco hi⟩, ?_⟩
    show q :: woK s.L k = _
    rw [e1, hpq, less_woK hco hi, ← hL, hpq, hki])
  clear hm hm0 hco hfk hL hi hGet A3 K3 HK2 HA2 HS2 hki hpq
  go_wp2_with fail
  refine hGet2.mono ?_
  rintro e w4 ⟨rfl, k4⟩
  have HK4 := hid (kept_trans HK3.out k4)
  have HA4 := hid (at_kept HA3.out k4)
  have HZ4 := hid (at_kept HZ3.out k4)
  have HM4 := hid (sm_kept HM.out k4)
  obtain ⟨⟨_, _, c2, _⟩, _⟩ := sm_cells HM4.out
  clear k4 hGet2 c1 HK3 HA3 HZ3 HM hw3
  go_wp2_with fail
  refine (Lru.use_any i hin _ HM4.out.lst).mono ?_
  rintro e w5 ⟨rfl, t5, g5⟩
  have HS5 := hid (HEnd.out _ (sm_lst HM4.out t5 g5))
  have HT5 := hid (tn_trans (tn_kept HK4.out) (tn_turn t5 HM4.out.fRl))
  have A5 := at_tn HA4.out (tn_turn (F := F) t5 HM4.out.fRl) HLow.out
  have Z5 := at_tn HZ4.out (tn_turn (F := F) t5 HM4.out.fRl) HLz.out
  obtain ⟨z0, z1, z2, z3, z4, z5, z6, z7, zf⟩ := at_cells8 Z5
  obtain ⟨d0, d1, d2, d3, d4, d5, d6, d7, df⟩ := at_cells8 A5
  have E1 := hid (at_set8 A5 (.string q.key) (.int .u64 q.s.p) (.int .u32 q.s.l) (.int .u8 q.s.n) (.int .u8 q.kind) (.int .u32 q.flags) (.int .u64 q.exp) (.string q.body))
  have TY : Tn (fun k => k = Y) w5 (set8 w5 Y (.string q.key) (.int .u64 q.s.p) (.int .u32 q.s.l) (.int .u8 q.s.n) (.int .u8 q.kind) (.int .u32 q.flags) (.int .u64 q.exp) (.string q.body)) := tn_set8 (F := fun k => k = Y) tn_refl (.inl rfl) _ _ _ _ _ _ _ _
  have E2 := hid (st_tn HS5.out TY (fun j hj e => HLow.out (by rw [← e]; exact hj)))
  have E3 : Hid (Tn F w (set8 w5 Y (.string q.key) (.int .u64 q.s.p) (.int .u32 q.s.l) (.int .u8 q.s.n) (.int .u8 q.kind) (.int .u32 q.flags) (.int .u64 q.exp) (.string q.body))) := hid (tn_set8 HT5.out (.inr HYl.out) _ _ _ _ _ _ _ _)
  simp only [set8] at E1 E2 E3
  clear HS5 HT5 A5 Z5 TY t5 g5 HM4 HEnd HZ4 HA4 HK4 c2
  go_wp2_with fail
  exact bodyPost_ret (res2r Tryz.results16 _ rfl rfl E1.out) rfl ⟨rfl, E3.out, E2.out⟩
theorem get_any {F : Nat → Prop} {X : Nat} {c : Cf} {s : MS} (hc : c.may) (k : ByteArray) (hk : k.size ≤ 1000) (w : World) (h : St w F X c s) :
    Calls Tryz.prog 16 #[.pointer (some ⟨X, 0, none⟩), .string k] w fun e w' => e = .returned (.tuple #[.agg #[.string (pk s k).key, .int .u64 (pk s k).s.p, .int .u32 (pk s k).s.l, .int .u8 (pk s k).s.n, .int .u8 (pk s k).kind, .int .u32 (pk s k).flags, .int .u64 (pk s k).exp, .string (pk s k).body], .bool (findK s.L k).isSome]) ∧ Tn F w w' ∧ St w' F X c (getS s k) := by
  unfold pk
  cases hf : findK s.L k with
  | none =>
    refine (get_none hc k hk hf w h).mono ?_
    rintro e w' ⟨rfl, kw⟩
    have e5 : getS s k = s := by unfold getS; rw [hf]
    rw [e5]
    exact ⟨rfl, tn_kept kw, st_kept h kw⟩
  | some q => exact get_some hc k hk q hf w h
end Go.Proofs.YthgbdaladngpdaaGreat
