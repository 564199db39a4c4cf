/- The contract of the law's give: records, with those that are pushed. -/
import Derived.Test.YtgfmmipbadnhgaaSwPull
namespace Go.Proofs.Ytgfmmipbadnhgaa
open Go.ChangeShapes Go.WideShapes Go.ChangeAt Go.RowKit
set_option linter.unusedVariables false
set_option linter.unusedSimpArgs false
set_option maxRecDepth 100000

theorem last_snoc (p : R) : ∀ (l : List R) (r : R), lastOf r (l ++ [p]) = if keq p.key (lastOf r l).key then p else lastOf r l
  | [], r => rfl
  | x :: l, r => by rw [List.cons_append, lastOf, last_snoc p l, lastOf]
theorem last_next {l : List R} {k : Nat} {p : R} (h : l[k]? = some p) (r : R) : lastOf r (l.take (k + 1)) = if keq p.key (lastOf r (l.take k)).key then p else lastOf r (l.take k) := by
  rw [take_next h, last_snoc]
theorem map_next {α β : Type} {l : List α} {k : Nat} {x : α} (h : l[k]? = some x) (f : α → β) : (l.take (k + 1)).map f = (l.take k).map f ++ [f x] := by
  rw [take_next h, List.map_append]; rfl
theorem filter_next {α : Type} {l : List α} {k : Nat} {x : α} (h : l[k]? = some x) (f : α → Bool) : (l.take (k + 1)).filter f = (l.take k).filter f ++ (if f x then [x] else []) := by
  rw [take_next h, List.filter_append]
  cases e : f x <;> simp [e]
theorem any_next {α : Type} {l : List α} {k : Nat} {x : α} (h : l[k]? = some x) (f : α → Bool) : (l.take (k + 1)).any f = ((l.take k).any f || f x) := by
  rw [take_next h, List.any_append]; simp
/- A record put where another one lay. -/
theorem at_setRow {w : World} {Z : Nat} {cs ds : Array Value} {T : Nat} (h : At w Z ds T) : At (w.setRow Z cs) Z cs T := by
  unfold At World.setRow at *
  rw [Array.getElem?_modify, h]
  simp
theorem kept_setRow {u w : World} (h : Kept u w) {Z : Nat} (hZ : u.heap.size ≤ Z) (cs : Array Value) : Kept u (w.setRow Z cs) :=
  kept_of ((show (w.setRow Z cs).os = w.os from rfl).trans (kept_os h)) ((show (w.setRow Z cs).output = w.output from rfl).trans (kept_output h)) (by rw [size_setRow]; exact h.2) (fun i hi => by
    rw [← kept_block h hi]
    unfold World.setRow
    rw [Array.getElem?_modify, if_neg (by omega)])
theorem all8 (k b : ByteArray) (x1 x2 x3 x4 x5 x6 : Int) : (#[.string k, .int .u64 x1, .int .u32 x2, .int .u8 x3, .int .u8 x4, .int .u32 x5, .int .u64 x6, .string b] : Array Value).all (·.oneCell') = true := by simp [Value.oneCell']
theorem sizeR : (Try.prog.info? 41).map (·.size) = some 8 := by
  obtain ⟨i0, hi, hz0, hz1, hz2⟩ := info_parts infoR
  rw [hi]; simp [hz1]
def gives (mine pushed : List R) : Nat → List R := fun k => (mine.take k).map (fun r => lastOf r pushed)
def more (mine pushed : List R) : Nat → List R := fun k => mine.map (fun r => lastOf r pushed) ++ (pushed.take k).filter (fun p => !mine.any (fun r => keq r.key p.key))
theorem gives_len (mine pushed : List R) (k : Nat) : (gives mine pushed k).length ≤ mine.length := by unfold gives; simp; omega
theorem more_len (mine pushed : List R) (k : Nat) : (more mine pushed k).length ≤ mine.length + pushed.length := by
  unfold more
  have h := List.length_filter_le (fun p : R => !mine.any (fun r => keq r.key p.key)) (pushed.take k)
  rw [List.length_take] at h
  rw [List.length_append, List.length_map]
  omega
set_option maxHeartbeats 6400000 in
theorem give_any (l q : List R) (hn : l.length ≤ 2000) (hq : q.length ≤ 2000) (v u : Value) (w : World) (h : Rg encR 8 w v l) (hu : Rg encR 8 w u q) : Calls Try.prog 19 #[v, u] w (GRowC encR 8 41 (give l q) w) := by
  have HR := hid h
  have HU := hid hu
  obtain ⟨a, cap, rfl, -, -, -, -⟩ := h
  obtain ⟨b, capb, rfl, -, -, -, -⟩ := hu
  have HG : Hid (∀ k, k < l.length → ∃ y, l[k]? = some y) := hid (fun k hk => ⟨l[k], List.getElem?_eq_getElem hk⟩)
  have HGq : Hid (∀ k, k < q.length → ∃ y, q[k]? = some y) := hid (fun k hk => ⟨q[k], List.getElem?_eq_getElem hk⟩)
  have HP : Hid (0 < l.length → ∃ g o, a = some ⟨g, o, none⟩) := hid (fun hp => by
    obtain ⟨g, o, c, e⟩ := rg_pos HR.out hp
    injection e with e1
    exact ⟨g, o, e1⟩)
  have HPq : Hid (0 < q.length → ∃ g o, b = some ⟨g, o, none⟩) := hid (fun hp => by
    obtain ⟨g, o, c, e⟩ := rg_pos HU.out hp
    injection e with e1
    exact ⟨g, o, e1⟩)
  have HT : Hid (l.take l.length = l) := hid List.take_length
  have HTq : Hid (q.take q.length = q) := hid List.take_length
  have HEnd : Hid (∀ v u, Og encR 8 41 u w.heap.size v (more l q q.length) → Kept w u → GRowC encR 8 41 (give l q) w (.returned v) u) := hid (fun v u h1 h3 => ⟨v, rfl, by unfold more at h1; rw [HTq.out] at h1; exact h1, h3⟩)
  have HMid : Hid (gives l q l.length = more l q 0) := hid (by unfold gives more; rw [HT.out]; simp)
  have HGl : Hid (∀ k, (gives l q k).length ≤ 2000) := hid (fun k => Nat.le_trans (gives_len l q k) hn)
  have HMl : Hid (∀ k, (more l q k).length ≤ 4000) := hid (fun k => Nat.le_trans (more_len l q k) (by omega))
  generalize hnn : l.length = n at *
  generalize hmm : q.length = m at *
  clear hnn hmm
  go_enter Try.func19, Try.ntmps19
  go_wp2_with fail
  have HB0 := hid (Nat.le_refl w.heap.size)
  go_loopw [5, 17] (fun ks j wr => ∃ k : Nat, k ≤ n ∧ j = .int .i64 (k : Int) ∧ Hid (Og encR 8 41 wr w.heap.size ks (gives l q k)) ∧ Hid (Kept w wr)) (fun _ j _ => n - (intOf j).toNat)
  case atStart => exact ⟨0, Nat.zero_le _, rfl, hid (og_nil encR 8 41 w w.heap.size), hid (kept_refl w)⟩
  case round =>
    obtain ⟨k, hk, rfl, HO, HKr⟩ := hrel
    by_cases hlt : k < n
    · obtain ⟨x, hx⟩ := HG.out k hlt
      obtain ⟨g, o, rfl⟩ := HP.out (by omega)
      have HNx : Hid (gives l q (k + 1) = gives l q k ++ [lastOf x q]) := hid (by unfold gives; exact map_next hx _)
      obtain ⟨c0, c1, c2, c3, c4, c5, c6, c7⟩ := rg_R (rg_kept encR_ok HR.out HKr.out) hx
      have HA1 := hid (at_new wr #[.string x.key, .int .u64 x.s.p, .int .u32 x.s.l, .int .u8 x.s.n, .int .u8 x.kind, .int .u32 x.flags, .int .u64 x.exp, .string x.body] 41)
      have HK1 := hid (kept_alloc (kept_refl wr) (.cells #[.string x.key, .int .u64 x.s.p, .int .u32 x.s.l, .int .u8 x.s.n, .int .u8 x.kind, .int .u32 x.flags, .int .u64 x.exp, .string x.body] 41))
      have zs := zeroRv wr
      clear hx
      go_wp2_with fail
      clear c0 c1 c2 c3 c4 c5 c6 c7 zs
      generalize wr.alloc (.cells #[.string x.key, .int .u64 x.s.p, .int .u32 x.s.l, .int .u8 x.s.n, .int .u8 x.kind, .int .u32 x.flags, .int .u64 x.exp, .string x.body] 41) = w1 at *
      have HPl := hid (Nat.le_refl wr.heap.size)
      generalize hP : wr.heap.size = P at *
      have HPe := hid hP
      clear hP
      obtain ⟨W0, rfl⟩ : ∃ W0, W0 = wr := ⟨wr, rfl⟩
      go_loopw [23] (fun j wr => ∃ (i : Nat) (y : R), i ≤ m ∧ j = .int .i64 (i : Int) ∧ Hid (y = lastOf x (q.take i)) ∧ Hid (At wr P #[.string y.key, .int .u64 y.s.p, .int .u32 y.s.l, .int .u8 y.s.n, .int .u8 y.kind, .int .u32 y.flags, .int .u64 y.exp, .string y.body] 41) ∧ Hid (Kept W0 wr)) (fun j _ => m - (intOf j).toNat)
      case atStart => exact ⟨0, x, Nat.zero_le _, rfl, hid rfl, HA1, HK1⟩
      case round =>
        obtain ⟨i, y, hi, rfl, HY, HA, HKi⟩ := hrel
        clear HA1 HK1
        by_cases hlt2 : i < m
        · obtain ⟨p, hp⟩ := HGq.out i hlt2
          obtain ⟨gq, oq, rfl⟩ := HPq.out (by omega)
          have HNy := hid (last_next hp x)
          rw [← HY.out, keq_sameT] at HNy
          obtain ⟨c0, c1, c2, c3, c4, c5, c6, c7⟩ := rg_R (rg_kept encR_ok HU.out (kept_trans HKr.out HKi.out)) hp
          have HAa := hid (at_alloc HA.out (.cells #[.string p.key, .int .u64 p.s.p, .int .u32 p.s.l, .int .u8 p.s.n, .int .u8 p.kind, .int .u32 p.flags, .int .u64 p.exp, .string p.body] 41))
          have HKa := hid (kept_alloc HKi.out (.cells #[.string p.key, .int .u64 p.s.p, .int .u32 p.s.l, .int .u8 p.s.n, .int .u8 p.kind, .int .u32 p.flags, .int .u64 p.exp, .string p.body] 41))
          have hPl := at_lt HA.out
          have y0 := at_cell HA.out 0
          have zs := zeroRv wr
          simp only [List.getElem?_toArray, List.getElem?_cons_zero] at y0
          clear hp
          cases hs : sameT p.key y.key with
          | true =>
            have hk2 : (p.key.toList == y.key.toList) = true := hs
            rw [hs, if_pos rfl] at HNy
            have HAp := hid (at_setRow (cs := #[.string p.key, .int .u64 p.s.p, .int .u32 p.s.l, .int .u8 p.s.n, .int .u8 p.kind, .int .u32 p.flags, .int .u64 p.exp, .string p.body]) HAa.out)
            have HKp := hid (kept_setRow HKa.out (Z := P) (by rw [HPe.out]; exact Nat.le_refl _) #[.string p.key, .int .u64 p.s.p, .int .u32 p.s.l, .int .u8 p.s.n, .int .u8 p.kind, .int .u32 p.flags, .int .u64 p.exp, .string p.body])
            clear hs
            go_wp2_with (refine wpList_store_row rfl 41 (.tmp 7) (.tmp 32) rfl P #[.string p.key, .int .u64 p.s.p, .int .u32 p.s.l, .int .u8 p.s.n, .int .u8 p.kind, .int .u32 p.flags, .int .u64 p.exp, .string p.body] rfl rfl 41 _ HAa.out sizeR rfl (all8 _ _ _ _ _ _ _ _) ?_)
            go_roundw
            case rel => exact ⟨i + 1, p, by omega, by go_num, hid HNy.out.symm, HAp, HKp⟩
            case measure => simp [intOf]; omega
          | false =>
            have hk2 : (p.key.toList == y.key.toList) = false := hs
            rw [hs, if_neg (by simp)] at HNy
            clear hs
            go_wp2_with fail
            go_roundw
            case rel => exact ⟨i + 1, y, by omega, by go_num, hid HNy.out.symm, HAa, HKa⟩
            case measure => simp [intOf]; omega
        · have he : i = m := by omega
          subst he
          rw [HTq.out] at HY
          obtain ⟨y0, y1, y2, y3, y4, y5, y6, y7, -⟩ := at_cells8 HA.out
          rw [← HY.out] at HNx
          have HKw := hid (kept_trans HKr.out HKi.out)
          have HO2 := hid (og_stays HO.out HKi.out)
          have HKa := hid (kept_alloc HKw.out (.cells #[.string y.key, .int .u64 y.s.p, .int .u32 y.s.l, .int .u8 y.s.n, .int .u8 y.kind, .int .u32 y.flags, .int .u64 y.exp, .string y.body] 41))
          have HOa := hid (og_stays HO2.out (kept_alloc (kept_refl wr) (.cells #[.string y.key, .int .u64 y.s.p, .int .u32 y.s.l, .int .u8 y.s.n, .int .u8 y.kind, .int .u32 y.flags, .int .u64 y.exp, .string y.body] 41)))
          have HAl := hid (rg_alone encR_ok (y := y) (at_new wr #[.string y.key, .int .u64 y.s.p, .int .u32 y.s.l, .int .u8 y.s.n, .int .u8 y.kind, .int .u32 y.flags, .int .u64 y.exp, .string y.body] 41))
          have HBw := hid HKa.out.2
          clear HO
          go_wp2_with (at_builtin; go_must (refine wpList_gapp rfl (.tmp 34) (.tmp 36) rfl encR_ok tyR (by decide) w.heap.size _ _ _ _ rfl HOa.out rfl HAl.out (by have := HGl.out k; simp; omega) HBw.out ?_; intro v3 w3 hown3 hgrow3 hnil3))
          have HO3 : Hid (Og encR 8 41 w3 w.heap.size v3 (gives l q (k + 1))) := hid (by rw [HNx.out]; exact hown3)
          have HK3 := hid (kept_gr HKa.out hgrow3 (fun j hj => og_lt HOa.out hj))
          go_roundw
          case rel => exact ⟨k + 1, by omega, by go_num, HO3, HK3⟩
          case measure => simp [intOf]; omega
    · have he : k = n := by omega
      subst he
      rw [HMid.out] at HO
      go_wp2_with fail
      obtain ⟨W1, rfl⟩ : ∃ W1, W1 = wr := ⟨wr, rfl⟩
      go_loopw [5, 41] (fun ks j wr => ∃ k : Nat, k ≤ m ∧ j = .int .i64 (k : Int) ∧ Hid (Og encR 8 41 wr w.heap.size ks (more l q k)) ∧ Hid (Kept w wr)) (fun _ j _ => m - (intOf j).toNat)
      case atStart => exact ⟨0, Nat.zero_le _, rfl, HO, HKr⟩
      case round =>
        clear HO HKr
        obtain ⟨e, he, rfl, HO, HKr⟩ := hrel
        by_cases hlt2 : e < m
        · obtain ⟨p, hp⟩ := HGq.out e hlt2
          obtain ⟨gq, oq, rfl⟩ := HPq.out (by omega)
          have HNx : Hid (more l q (e + 1) = more l q e ++ (if (!l.any (fun r => keq r.key p.key)) then [p] else [])) := hid (by unfold more; rw [filter_next hp, List.append_assoc])
          obtain ⟨c0, c1, c2, c3, c4, c5, c6, c7⟩ := rg_R (rg_kept encR_ok HU.out HKr.out) hp
          have HA1 := hid (at_new wr #[.string p.key, .int .u64 p.s.p, .int .u32 p.s.l, .int .u8 p.s.n, .int .u8 p.kind, .int .u32 p.flags, .int .u64 p.exp, .string p.body] 41)
          have HK1 := hid (kept_alloc (kept_refl wr) (.cells #[.string p.key, .int .u64 p.s.p, .int .u32 p.s.l, .int .u8 p.s.n, .int .u8 p.kind, .int .u32 p.flags, .int .u64 p.exp, .string p.body] 41))
          have zs := zeroRv wr
          clear hp
          go_wp2_with fail
          clear c0 c1 c2 c3 c4 c5 c6 c7 zs
          generalize wr.alloc (.cells #[.string p.key, .int .u64 p.s.p, .int .u32 p.s.l, .int .u8 p.s.n, .int .u8 p.kind, .int .u32 p.flags, .int .u64 p.exp, .string p.body] 41) = w1 at *
          generalize hP : wr.heap.size = P at *
          clear hP
          obtain ⟨W0, rfl⟩ : ∃ W0, W0 = wr := ⟨wr, rfl⟩
          go_loopw [12, 47] (fun b j wr => ∃ (i : Nat), i ≤ k ∧ j = .int .i64 (i : Int) ∧ b = .bool ((l.take i).any (fun r => keq r.key p.key)) ∧ Hid (At wr P #[.string p.key, .int .u64 p.s.p, .int .u32 p.s.l, .int .u8 p.s.n, .int .u8 p.kind, .int .u32 p.flags, .int .u64 p.exp, .string p.body] 41) ∧ Hid (Kept W0 wr)) (fun _ j _ => k - (intOf j).toNat)
          case atStart => exact ⟨0, Nat.zero_le _, rfl, rfl, HA1, HK1⟩
          case round =>
            obtain ⟨i, hi, rfl, rfl, HA, HKi⟩ := hrel
            clear HA1 HK1
            by_cases hlt3 : i < k
            · obtain ⟨z, hz⟩ := HG.out i hlt3
              obtain ⟨g, o, rfl⟩ := HP.out (by omega)
              have HNz := hid (any_next hz (fun r => keq r.key p.key))
              have HKw := hid (kept_trans HKr.out HKi.out)
              obtain ⟨c0, c1, c2, c3, c4, c5, c6, c7⟩ := rg_R (rg_kept encR_ok HR.out HKw.out) hz
              have HAa := hid (at_alloc HA.out (.cells #[.string z.key, .int .u64 z.s.p, .int .u32 z.s.l, .int .u8 z.s.n, .int .u8 z.kind, .int .u32 z.flags, .int .u64 z.exp, .string z.body] 41))
              have HKa := hid (kept_alloc HKi.out (.cells #[.string z.key, .int .u64 z.s.p, .int .u32 z.s.l, .int .u8 z.s.n, .int .u8 z.kind, .int .u32 z.flags, .int .u64 z.exp, .string z.body] 41))
              have hPl := at_lt HA.out
              have y0 := at_cell HA.out 0
              have zs := zeroRv wr
              simp only [List.getElem?_toArray, List.getElem?_cons_zero] at y0
              clear hz
              cases hany : (l.take i).any (fun r => keq r.key p.key) with
              | true =>
                rw [hany, Bool.true_or] at HNz
                go_wp2_with fail
                go_roundw
                case rel => exact ⟨i + 1, by omega, by go_num, by rw [HNz.out], HAa, HKa⟩
                case measure => simp [intOf]; omega
              | false =>
                rw [hany, Bool.false_or, keq_sameT] at HNz
                cases hs : sameT z.key p.key with
                | true =>
                  have hk2 : (z.key.toList == p.key.toList) = true := hs
                  rw [hs] at HNz
                  clear hs
                  go_wp2_with fail
                  go_roundw
                  case rel => exact ⟨i + 1, by omega, by go_num, by rw [HNz.out], HAa, HKa⟩
                  case measure => simp [intOf]; omega
                | false =>
                  have hk2 : (z.key.toList == p.key.toList) = false := hs
                  rw [hs] at HNz
                  clear hs
                  go_wp2_with fail
                  go_roundw
                  case rel => exact ⟨i + 1, by omega, by go_num, by rw [HNz.out], HAa, HKa⟩
                  case measure => simp [intOf]; omega
            · have he2 : i = k := by omega
              subst he2
              obtain ⟨y0, y1, y2, y3, y4, y5, y6, y7, -⟩ := at_cells8 HA.out
              have HKw := hid (kept_trans HKr.out HKi.out)
              have HO2 := hid (og_stays HO.out HKi.out)
              cases hany : (l.take i).any (fun r => keq r.key p.key) with
              | true =>
                rw [HT.out] at hany
                rw [hany] at HNx
                have HNy : Hid (more l q (e + 1) = more l q e) := hid (by rw [HNx.out]; simp)
                go_wp2_with fail
                go_roundw
                case rel => exact ⟨e + 1, by omega, by go_num, hid (by rw [HNy.out]; exact HO2.out), HKw⟩
                case measure => simp [intOf]; omega
              | false =>
                rw [HT.out] at hany
                rw [hany] at HNx
                have HNy : Hid (more l q (e + 1) = more l q e ++ [p]) := hid (by rw [HNx.out]; simp)
                have HKa := hid (kept_alloc HKw.out (.cells #[.string p.key, .int .u64 p.s.p, .int .u32 p.s.l, .int .u8 p.s.n, .int .u8 p.kind, .int .u32 p.flags, .int .u64 p.exp, .string p.body] 41))
                have HOa := hid (og_stays HO2.out (kept_alloc (kept_refl wr) (.cells #[.string p.key, .int .u64 p.s.p, .int .u32 p.s.l, .int .u8 p.s.n, .int .u8 p.kind, .int .u32 p.flags, .int .u64 p.exp, .string p.body] 41)))
                have HAl := hid (rg_alone encR_ok (y := p) (at_new wr #[.string p.key, .int .u64 p.s.p, .int .u32 p.s.l, .int .u8 p.s.n, .int .u8 p.kind, .int .u32 p.flags, .int .u64 p.exp, .string p.body] 41))
                have HBw := hid HKa.out.2
                go_wp2_with (at_builtin; go_must (refine wpList_gapp rfl (.tmp 62) (.tmp 64) rfl encR_ok tyR (by decide) w.heap.size _ _ _ _ rfl HOa.out rfl HAl.out (by have := HMl.out e; simp; omega) HBw.out ?_; intro v3 w3 hown3 hgrow3 hnil3))
                have HO3 : Hid (Og encR 8 41 w3 w.heap.size v3 (more l q (e + 1))) := hid (by rw [HNy.out]; exact hown3)
                have HK3 := hid (kept_gr HKa.out hgrow3 (fun j hj => og_lt HOa.out hj))
                go_roundw
                case rel => exact ⟨e + 1, by omega, by go_num, HO3, HK3⟩
                case measure => simp [intOf]; omega
        · have he2 : e = m := by omega
          subst he2
          go_wp2_with fail
          go_ret
          exact HEnd.out _ _ HO.out HKr.out
end Go.Proofs.Ytgfmmipbadnhgaa
