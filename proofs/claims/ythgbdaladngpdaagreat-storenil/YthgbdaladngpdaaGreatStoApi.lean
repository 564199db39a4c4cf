/- The contracts of Put, Peek and Get, of Len, Size, Evicted, Floor and Digest, over a store as a plain row of records; of all of these of a nil store. A key has at most 1000 bytes, a body at most 3000; the store has at most 500 records. -/
import Derived.Test.YthgbdaladngpdaaGreatStoPut2
import Derived.Test.YthgbdaladngpdaaGreatStoPut3
import Derived.Test.YthgbdaladngpdaaGreatStoNew
namespace Go.Proofs.YthgbdaladngpdaaGreat
open Go.ChangeShapes Go.WideShapes Go.ChangeAt Go.RowKit
open Go.Proofs.YthgbdaladngpdaaGreat.Whl (Tn tn_kept tn_refl tn_trans tn_set tn_alloc at_tn kept_tn It)
set_option linter.unusedVariables false
set_option linter.unusedSimpArgs false
set_option maxRecDepth 100000

section
variable {c : Cf} {s : MS} {r : R} {now : Int}
theorem put_of {k : Int} (hK : putK c s r now = k) (hk : k ≠ 100) : putB c s r now = false ∧ putE c s r now = k ∧ putS c s r now = s := by
  unfold putB putE putS
  rw [hK]
  exact ⟨decide_eq_false hk, if_neg hk, if_neg hk⟩
theorem put_100 (hK : putK c s r now = 100) : putB c s r now = true ∧ putE c s r now = 0 ∧ putS c s r now = newer c s r := by
  unfold putB putE putS
  rw [hK]
  exact ⟨decide_eq_true rfl, if_pos rfl, if_pos rfl⟩
end
def PutC (F : Nat → Prop) (X : Nat) (c : Cf) (s : MS) (r : R) (now : Int) (w : World) (e : Ending) (w' : World) : Prop :=
  e = .returned (.tuple #[.bool (putB c s r now), .int .i64 (putE c s r now)]) ∧ ∃ F', Whl.Stp F F' w w' ∧ St w' F' X c (putS c s r now)
theorem put_any {F : Nat → Prop} {X : Nat} {c : Cf} {s : MS} (hc : c.may) (r : R) (hk : r.key.size ≤ 1000) (hb : r.body.size ≤ 3000) (hok : r.ok) (now : Int) (hl : s.L.length ≤ 500) (hev : s.ev ≤ 900000000) (w : World) (h : St w F X c s) :
    Calls Tryz.prog 14 #[.pointer (some ⟨X, 0, none⟩), .agg #[.string r.key, .int .u64 r.s.p, .int .u32 r.s.l, .int .u8 r.s.n, .int .u8 r.kind, .int .u32 r.flags, .int .u64 r.exp, .string r.body], .int .u64 now] w (PutC F X c s r now w) := by
  obtain ⟨pl, l, hI, hL⟩ := h
  have hln : l.length ≤ 500 := by rw [hL] at hl; simpa using hl
  have kept : ∀ (k : Int), putK c s r now = k → k ≠ 100 → ∀ w', Kept w w' → PutC F X c s r now w (.returned (.tuple #[.bool false, .int .i64 k])) w' := fun k hK hk w' kw => by
    obtain ⟨h1, h2, h3⟩ := put_of hK hk
    unfold PutC
    rw [h1, h2, h3]
    exact ⟨rfl, F, Whl.stp_tn (tn_kept kw), pl, l, sti_kept hI kw, hL⟩
  have newr : putK c s r now = 100 → ∀ w', (∃ F', Whl.Stp F F' w w' ∧ St w' F' X c (newer c ⟨l.map pl, s.fl, s.ev⟩ r)) → PutC F X c s r now w (.returned (.tuple #[.bool true, .int .i64 0])) w' := fun hK w' hw => by
    obtain ⟨h1, h2, h3⟩ := put_100 hK
    unfold PutC
    rw [h1, h2, h3]
    have es : (⟨l.map pl, s.fl, s.ev⟩ : MS) = s := by rw [← hL]
    rw [es] at hw
    exact ⟨rfl, hw⟩
  cases hm : mayR r with
  | false =>
    have hK : putK c s r now = 1 := by unfold putK; rw [if_pos hm]
    refine (put_may hc r hk hb hok now w hI hm).mono ?_
    rintro e w' ⟨rfl, kw⟩
    exact kept 1 hK (by omega) w' kw
  | true =>
    by_cases ho : r.s.p + (c.K : Int) ≤ now
    · have hK : putK c s r now = 8 := by unfold putK; rw [if_neg (by simp [hm]), if_pos ho]
      refine (put_old hc r hk hb hok now w hI hm ho).mono ?_
      rintro e w' ⟨rfl, kw⟩
      exact kept 8 hK (by omega) w' kw
    · cases hf : findK s.L r.key with
      | some q =>
        have hco : Coh c pl l _ _ (fun _ => False) := hI.choose_spec.choose_spec.choose_spec.2
        obtain ⟨q1, q2⟩ := find_some hf
        rw [hL] at q1
        obtain ⟨i, hi, rfl⟩ := List.mem_map.1 q1
        have hK : putK c s r now = if cmpR r (pl i) = 0 then 0 else if cmpR r (pl i) < 0 then 8 else if c.B < lenR r then 6 else 100 := by
          unfold putK; rw [if_neg (by simp [hm]), if_neg ho, hf]
        by_cases h0 : cmpR r (pl i) = 0
        · rw [if_pos h0] at hK
          refine (put_same hc r hk hb hok now w hI hm ho i hi q2 h0).mono ?_
          rintro e w' ⟨rfl, kw⟩
          exact kept 0 hK (by omega) w' kw
        · rw [if_neg h0] at hK
          by_cases h1 : cmpR r (pl i) < 0
          · rw [if_pos h1] at hK
            refine (put_ahead hc r hk hb hok now w hI hm ho i hi q2 h1).mono ?_
            rintro e w' ⟨rfl, kw⟩
            exact kept 8 hK (by omega) w' kw
          · rw [if_neg h1] at hK
            by_cases h2 : c.B < lenR r
            · rw [if_pos h2] at hK
              refine (put_big1 hc r hk hb hok now w hI hm ho i hi q2 (by omega) h2).mono ?_
              rintro e w' ⟨rfl, kw⟩
              exact kept 6 hK (by omega) w' kw
            · rw [if_neg h2] at hK
              refine (put_over hc r hk hb hok now w hI hm ho i hi q2 (by omega) (by omega) hln hev).mono ?_
              rintro e w' ⟨rfl, kw⟩
              exact newr hK w' kw
      | none =>
        have hK : putK c s r now = if lt (s.fl (rg r.key)) r.s = true then (if c.B < lenR r then 6 else 100) else 8 := by
          unfold putK; rw [if_neg (by simp [hm]), if_neg ho, hf]
        rw [hL] at hf
        by_cases h0 : cmp (s.fl (rg r.key)) r.s < 0
        · rw [if_pos (lt_cmp.2 h0)] at hK
          by_cases h2 : c.B < lenR r
          · rw [if_pos h2] at hK
            refine (put_big2 hc r hk hb hok now w hI hm ho hf h0 h2).mono ?_
            rintro e w' ⟨rfl, kw⟩
            exact kept 6 hK (by omega) w' kw
          · rw [if_neg h2] at hK
            refine (put_new hc r hk hb hok now w hI hm ho hf h0 (by omega) hln hev).mono ?_
            rintro e w' ⟨rfl, kw⟩
            exact newr hK w' kw
        · rw [if_neg (fun g => h0 (lt_cmp.1 g))] at hK
          refine (put_floor hc r hk hb hok now w hI hm ho hf h0).mono ?_
          rintro e w' ⟨rfl, kw⟩
          exact kept 8 hK (by omega) w' kw
/- What there is of a key. -/
def pk (s : MS) (k : ByteArray) : R := (findK s.L k).getD zeroR
theorem res2r {fn : Func} {p u : Tmp} (h : fn.results = #[.cell p 42, .tmp u]) (tmps : Array Value) {w : World} {X T : Nat} {v0 v1 v2 v3 v4 v5 v6 v7 r : Value} (hp : tmps.getD p undef = .pointer (some ⟨X, 0, none⟩)) (hu : tmps.getD u undef = r) (hA : At w X #[v0, v1, v2, v3, v4, v5, v6, v7] T) :
    (results fn tmps).run Tryz.prog w = .ok (.tuple #[.agg #[v0, v1, v2, v3, v4, v5, v6, v7], r]) w := by
  obtain ⟨c0, c1, c2, c3, c4, c5, c6, c7, -⟩ := at_cells8 hA
  have hp' : tmps[p]?.getD undef = .pointer (some ⟨X, 0, none⟩) := by simpa using hp
  have hu' : tmps[u]?.getD undef = r := by simpa using hu
  simp [results, h, go_sem, hp', hu', c0, c1, c2, c3, c4, c5, c6, c7]
set_option maxHeartbeats 1600000 in
theorem peek_none {F : Nat → Prop} {X : Nat} {c : Cf} {s : MS} (k : ByteArray) (hk : k.size ≤ 1000) (hf : findK s.L k = none) (w : World) (h : St w F X c s) :
    Calls Tryz.prog 18 #[.pointer (some ⟨X, 0, none⟩), .string k] w fun e w' => e = .returned (.tuple #[.agg #[.string zeroR.key, .int .u64 zeroR.s.p, .int .u32 zeroR.s.l, .int .u8 zeroR.s.n, .int .u8 zeroR.kind, .int .u32 zeroR.flags, .int .u64 zeroR.exp, .string zeroR.body], .bool false]) ∧ Kept w w' := by
  obtain ⟨pl, l, ⟨f, M, a, hm, hco⟩, hL⟩ := h
  have hz := zero27
  have hkm : k.size ≤ maxLen := by unfold maxLen; omega
  rw [hL] at hf
  have hfk : f k = none := (coh_none hco).2 hf
  have A1 := at_new w #[.string zeroR.key, .int .u64 zeroR.s.p, .int .u32 zeroR.s.l, .int .u8 zeroR.s.n, .int .u8 zeroR.kind, .int .u32 zeroR.flags, .int .u64 zeroR.exp, .string zeroR.body] 42
  have K1 := kept_alloc (kept_refl w) (.cells #[.string zeroR.key, .int .u64 zeroR.s.p, .int .u32 zeroR.s.l, .int .u8 zeroR.s.n, .int .u8 zeroR.kind, .int .u32 zeroR.flags, .int .u64 zeroR.exp, .string zeroR.body] 42)
  simp only [zeroR, zero] at A1 K1
  obtain ⟨w1, hw1⟩ : ∃ w1, w.alloc (.cells #[.string ⟨#[]⟩, .int .u64 0, .int .u32 0, .int .u8 0, .int .u8 0, .int .u32 0, .int .u64 0, .string ⟨#[]⟩] 42) = w1 := ⟨_, rfl⟩
  obtain ⟨Y, hY⟩ : ∃ Y, w.heap.size = Y := ⟨_, rfl⟩
  rw [hw1] at A1 K1
  rw [hY] at A1
  have HA1 := hid A1
  have HK1 := hid K1
  have HYl := hid (Nat.le_of_eq hY)
  have hm1 := sm_kept hm K1
  have hGet := Slo.get_any k hkm w1 hm1.tab
  rw [Slo.valI_mp, Slo.taken_mp, hm.mp, hfk] at hGet
  obtain ⟨⟨_, c1, _⟩, _⟩ := sm_cells hm1
  clear hm hm1 hco hf hfk A1 K1 hL
  go_enter Tryz.func18, Tryz.ntmps18
  go_wp2_with fail
  refine hGet.mono ?_
  rintro e w2 ⟨rfl, k2⟩
  have HK2 := hid (kept_trans HK1.out k2)
  have HA2 := hid (at_kept HA1.out k2)
  clear k2 hGet c1 HA1 HK1 hw1
  obtain ⟨d0, d1, d2, d3, d4, d5, d6, d7, df⟩ := at_cells8 HA2.out
  have E1 := hid (at_set8 HA2.out (.string ⟨#[]⟩) (.int .u64 0) (.int .u32 0) (.int .u8 0) (.int .u8 0) (.int .u32 0) (.int .u64 0) (.string ⟨#[]⟩))
  have E2 := hid (kept_set8 HK2.out HYl.out (.string ⟨#[]⟩) (.int .u64 0) (.int .u32 0) (.int .u8 0) (.int .u8 0) (.int .u32 0) (.int .u64 0) (.string ⟨#[]⟩))
  simp only [set8] at E1 E2
  clear HA2 HK2
  go_wp2_with fail
  exact bodyPost_ret (res2r Tryz.results18 _ rfl rfl E1.out) rfl ⟨rfl, E2.out⟩
set_option maxHeartbeats 1600000 in
theorem peek_some {F : Nat → Prop} {X : Nat} {c : Cf} {s : MS} (hc : c.may) (k : ByteArray) (hk : k.size ≤ 1000) (q : R) (hf : findK s.L k = some q) (w : World) (h : St w F X c s) :
    Calls Tryz.prog 18 #[.pointer (some ⟨X, 0, none⟩), .string k] w fun e w' => e = .returned (.tuple #[.agg #[.string q.key, .int .u64 q.s.p, .int .u32 q.s.l, .int .u8 q.s.n, .int .u8 q.kind, .int .u32 q.flags, .int .u64 q.exp, .string q.body], .bool true]) ∧ Kept w w' := by
  obtain ⟨pl, l, ⟨f, M, a, hm, hco⟩, hL⟩ := h
  have hz := zero27
  have hkm : k.size ≤ maxLen := by unfold maxLen; omega
  rw [hL] at hf
  obtain ⟨i, hi, hfk⟩ : ∃ i ∈ l, f k = some (i : Int) ∧ pl i = q := by
    obtain ⟨q1, q2⟩ := find_some hf
    obtain ⟨i, hi, e⟩ := List.mem_map.1 q1
    exact ⟨i, hi, (hco.map k (i : Int)).2 ⟨i, hi, rfl, by rw [e]; exact q2⟩, e⟩
  obtain ⟨hfk, hpq⟩ := hfk
  have hin : i < c.n := hco.low i hi
  have hn4 : c.n ≤ 1024 := hc.2.1
  have hmay := hco.may i hi
  rw [hpq] at hmay
  have hqk : q.key.size ≤ 140737488355328 := by have := (may_len hmay).2; omega
  have hqb : q.body.size ≤ 140737488355328 := by have := (may_len hmay).1; unfold lenR at this; omega
  have A1 := at_new w #[.string zeroR.key, .int .u64 zeroR.s.p, .int .u32 zeroR.s.l, .int .u8 zeroR.s.n, .int .u8 zeroR.kind, .int .u32 zeroR.flags, .int .u64 zeroR.exp, .string zeroR.body] 42
  have K1 := kept_alloc (kept_refl w) (.cells #[.string zeroR.key, .int .u64 zeroR.s.p, .int .u32 zeroR.s.l, .int .u8 zeroR.s.n, .int .u8 zeroR.kind, .int .u32 zeroR.flags, .int .u64 zeroR.exp, .string zeroR.body] 42)
  simp only [zeroR, zero] at A1 K1
  obtain ⟨w1, hw1⟩ : ∃ w1, w.alloc (.cells #[.string ⟨#[]⟩, .int .u64 0, .int .u32 0, .int .u8 0, .int .u8 0, .int .u32 0, .int .u64 0, .string ⟨#[]⟩] 42) = w1 := ⟨_, rfl⟩
  obtain ⟨Y, hY⟩ : ∃ Y, w.heap.size = Y := ⟨_, rfl⟩
  rw [hw1] at A1 K1
  rw [hY] at A1
  have HA1 := hid A1
  have HK1 := hid K1
  have HYl := hid (Nat.le_of_eq hY)
  have hm1 := sm_kept hm K1
  have HM1 := hid hm1
  have hGet := Slo.get_any k hkm w1 hm1.tab
  rw [Slo.valI_mp, Slo.taken_mp, hm.mp, hfk] at hGet
  have hGet2 : Calls Tryz.prog 38 #[.pointer (some ⟨a.Xt, 0, none⟩), .string k] w1 fun e w' => e = .returned (.tuple #[.int .i64 (i : Int), .bool true]) ∧ Kept w1 w' := hGet
  obtain ⟨⟨_, c1, _⟩, _⟩ := sm_cells hm1
  have HPq := hid hpq
  clear hm hm1 hco hf hfk A1 K1 hL hi hGet hmay hpq
  go_enter Tryz.func18, Tryz.ntmps18
  go_wp2_with fail
  refine hGet2.mono ?_
  rintro e w2 ⟨rfl, k2⟩
  have HK2 := hid (kept_trans HK1.out k2)
  have HA2 := hid (at_kept HA1.out k2)
  have hm2 := sm_kept HM1.out k2
  obtain ⟨⟨e0, _⟩, _⟩ := sm_cells hm2
  have hr8 := (rowR_cells hm2.row hin).1
  rw [HPq.out] at hr8
  obtain ⟨r0, r1, r2, r3, r4, r5, r6, r7⟩ := hr8
  clear k2 hGet2 c1 HA1 HK1 hw1 hm2 HM1
  go_wp2_with fail
  refine (fresh_any q hqk hqb _).mono ?_
  rintro e w3 ⟨rfl, k3⟩
  have HK3 := hid (kept_trans HK2.out k3)
  have HA3 := hid (at_kept HA2.out k3)
  clear k3 HK2 HA2 e0 r0 r1 r2 r3 r4 r5 r6 r7
  obtain ⟨d0, d1, d2, d3, d4, d5, d6, d7, df⟩ := at_cells8 HA3.out
  have E1 := hid (at_set8 HA3.out (.string q.key) (.int .u64 q.s.p) (.int .u32 q.s.l) (.int .u8 q.s.n) (.int .u8 q.kind) (.int .u32 q.flags) (.int .u64 q.exp) (.string q.body))
  have E2 := hid (kept_set8 HK3.out HYl.out (.string q.key) (.int .u64 q.s.p) (.int .u32 q.s.l) (.int .u8 q.s.n) (.int .u8 q.kind) (.int .u32 q.flags) (.int .u64 q.exp) (.string q.body))
  simp only [set8] at E1 E2
  clear HA3 HK3
  go_wp2_with fail
  exact bodyPost_ret (res2r Tryz.results18 _ rfl rfl E1.out) rfl ⟨rfl, E2.out⟩
theorem peek_any {F : Nat → Prop} {X : Nat} {c : Cf} {s : MS} (hc : c.may) (k : ByteArray) (hk : k.size ≤ 1000) (w : World) (h : St w F X c s) :
    Calls Tryz.prog 18 #[.pointer (some ⟨X, 0, none⟩), .string k] w fun e w' => e = .returned (.tuple #[.agg #[.string (pk s k).key, .int .u64 (pk s k).s.p, .int .u32 (pk s k).s.l, .int .u8 (pk s k).s.n, .int .u8 (pk s k).kind, .int .u32 (pk s k).flags, .int .u64 (pk s k).exp, .string (pk s k).body], .bool (findK s.L k).isSome]) ∧ Kept w w' := by
  unfold pk
  cases hf : findK s.L k with
  | none => exact peek_none k hk hf w h
  | some q => exact peek_some hc k hk q hf w h
end Go.Proofs.YthgbdaladngpdaaGreat
