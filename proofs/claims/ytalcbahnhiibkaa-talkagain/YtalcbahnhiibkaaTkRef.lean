/- The contract of the reference's Take. Rows have at most 64 members, numbers are at most 64. -/
import Derived.Test.YtalcbahnhiibkaaTkRows
import Derived.Deep.CutBlock
import Derived.Deep.DeepCutAuto
namespace Go.Proofs.Ytalcbahnhiibkaa
open Go.ChangeShapes Go.WideShapes Go.ChangeAt Go.RowKit
set_option linter.unusedVariables false
set_option linter.unusedSimpArgs false
set_option maxRecDepth 100000

def cod : Option Nat → Int
  | none => -1
  | some k => (k : Int)
theorem og_other {α : Type} {enc : α → List Value} {c T U B : Nat} {w : World} {v : Value} {xs : List α} (h : Og enc c T w B v xs) {q : Nat} {cs : Array Value} (hq : At w q cs U) (hTU : T ≠ U) (o : Nat) (x : Value) : Og enc c T (w.setCell ⟨q, o, none⟩ x) B v xs :=
  og_block h (fun g cur _ ha => Below.heap_setCell _ _ _ _ (at_ne ha hq hTU))
theorem og_row {α : Type} {enc : α → List Value} {c T U B : Nat} {w : World} {v : Value} {xs : List α} (h : Og enc c T w B v xs) {q : Nat} {cs ds : Array Value} (hq : At w q cs U) (hTU : T ≠ U) : Og enc c T (w.setRow q ds) B v xs :=
  og_block h (fun g cur _ ha => setRow_other (at_ne ha hq hTU))
theorem builtN (w : World) : Og encN 3 33 (w.alloc (.cells #[] 33)) w.heap.size (.slice (some ⟨w.heap.size, 0, none⟩) 0 0) [] := og_built encN_ok 33 w _ (Nat.le_refl _) [] (by decide)
theorem builtP (w : World) : Og encP 4 58 (w.alloc (.cells #[] 58)) w.heap.size (.slice (some ⟨w.heap.size, 0, none⟩) 0 0) [] := og_built encP_ok 58 w _ (Nat.le_refl _) [] (by decide)
theorem keep_next {l : List Pc} {k : Nat} {y : Pc} (h : l[k]? = some y) (n : Nat) : keep n (l.take (k + 1)) = keep n (l.take k) ++ (if y.told < n then [y] else []) := by
  unfold keep
  rw [take_next h, List.filter_append]
  congr 1
  by_cases e : y.told < n <;> simp [e]
theorem was_none (n : Nat) : wasL n [] = List.replicate n false := by
  apply List.ext_getElem?
  intro i
  by_cases h : i < n
  · rw [was_get _ h, List.getElem?_replicate, if_pos h]
    simp [mm]
  · rw [List.getElem?_eq_none (by rw [was_len]; omega), List.getElem?_eq_none (by simp; omega)]
theorem og_cell {α : Type} {enc : α → List Value} {c T B q n cap : Nat} {w : World} {xs : List α} (he : Enc enc c) (h : Og enc c T w B (.slice (some ⟨q, 0, none⟩) n cap) xs) {i j : Nat} {x : α} {u : Value} (hx : xs[i]? = some x) (hu : (enc x)[j]? = some u) : w.cell? ⟨q, i * c + j, none⟩ = some u := by
  have := rg_all (rg_own he h) hx j u hu
  rwa [Nat.zero_add] at this
theorem og_P {T B q n cap : Nat} {w : World} {xs : List Pc} (h : Og encP 4 T w B (.slice (some ⟨q, 0, none⟩) n cap) xs) {i : Nat} {x : Pc} (hx : xs[i]? = some x) : w.cell? ⟨q, i * 4, none⟩ = some (.int .u8 x.x.node) ∧ w.cell? ⟨q, i * 4 + 1, none⟩ = some (.int .u8 x.x.st) ∧ w.cell? ⟨q, i * 4 + 2, none⟩ = some (.int .u32 x.x.inc) ∧ w.cell? ⟨q, i * 4 + 3, none⟩ = some (.int .i64 (x.told : Int)) :=
  ⟨og_cell encP_ok h (j := 0) hx rfl, og_cell encP_ok h (j := 1) hx rfl, og_cell encP_ok h (j := 2) hx rfl, og_cell encP_ok h (j := 3) hx rfl⟩
/- What stands while the reference takes: what is told, the rest, and what was told. -/
structure RT (w : World) (B R Q : Nat) (l : List Pc) (p : List Nat) (wr : World) (tv : Value) : Prop where
  t : Og encN 3 33 wr B tv (tellL l p)
  r : Og encP 4 58 wr B (.slice (some ⟨R, 0, none⟩) l.length l.length) (bump l p)
  s : Og encB 1 4 wr B (.slice (some ⟨Q, 0, none⟩) l.length l.length) (wasL l.length p)
  k : Kept w wr
  b : B ≤ wr.heap.size
theorem rt_kept {w : World} {B R Q : Nat} {l : List Pc} {p : List Nat} {wr wr' : World} {tv : Value} (h : RT w B R Q l p wr tv) (k : Kept wr wr') : RT w B R Q l p wr' tv :=
  ⟨og_stays h.t k, og_stays h.r k, og_stays h.s k, kept_trans h.k k, Nat.le_trans h.b k.2⟩
theorem rt_grow {w : World} {B R Q B5 : Nat} {l : List Pc} {p : List Nat} {wr w' : World} {tv rv : Value} {xs : List Pc} (h : RT w B R Q l p wr tv) (o : Og encP 4 58 wr B5 rv xs) (hR : R < B5) (hw : w.heap.size ≤ B5) (g : wr.grownBy w' rv.ownBlock) : RT w B R Q l p w' tv :=
  ⟨og_beside h.t o (by decide) g, og_block h.r (fun q cur hq ha => g.block q (at_lt ha) (fun e => by
    have h1 := og_lt o e.symm
    have h2 : R = q := by injection hq
    omega)), og_beside h.s o (by decide) g, kept_gr h.k g (fun j hj => by have := og_lt o hj; omega), Nat.le_trans h.b g.size⟩
theorem og_at_lt {α : Type} {enc : α → List Value} {c T B q n cap : Nat} {w : World} {xs : List α} (h : Og enc c T w B (.slice (some ⟨q, 0, none⟩) n cap) xs) : q < w.heap.size := by
  obtain ⟨cs, ha⟩ := og_type h
  exact at_lt ha
def RTakeC (l : List Pc) (n k : Nat) (w : World) (e : Ending) (w' : World) : Prop := ∃ tv rv, e = .returned (.tuple #[tv, rv]) ∧ Og encN 3 33 w' w.heap.size tv (takeT l k) ∧ Og encP 4 58 w' w.heap.size rv (takeR l n k) ∧ Kept w w'
set_option maxHeartbeats 12800000 in
theorem rtake_any (l : List Pc) (hl : l.length ≤ 64) (n k : Nat) (hn : n ≤ 64) (hk : k ≤ 64) (ht : ∀ q ∈ l, q.told ≤ 64) (v : Value) (w : World) (h : Rg encP 4 w v l) : Calls Try.prog 9 #[v, .int .i64 (n : Int), .int .i64 (k : Int)] w (RTakeC l n k w) := by
  have HR := hid h
  obtain ⟨a, cap, rfl, hc1, hc2, -, -⟩ := h
  have HG : Hid (∀ k, k < l.length → ∃ y, l[k]? = some y ∧ y.told ≤ 64) := hid (fun k hk => ⟨l[k], List.getElem?_eq_getElem hk, ht _ (List.getElem_mem hk)⟩)
  have HP : Hid (0 < l.length → ∃ g o, a = some ⟨g, o, none⟩) := hid (fun hp => by
    obtain ⟨g, o, c, e⟩ := rg_pos HR.out hp
    injection e with e1
    exact ⟨g, o, e1⟩)
  have HPk := hid (pks_ok l)
  -- the rows as they are made
  have HT0 := hid (builtN w)
  have HK0 := hid (kept_alloc (kept_refl w) (.cells #[] 33))
  obtain ⟨w0, hw0⟩ : ∃ w0, w.alloc (.cells #[] 33) = w0 := ⟨_, rfl⟩
  obtain ⟨B, hB⟩ : ∃ B, w.heap.size = B := ⟨_, rfl⟩
  rw [hw0, hB] at HT0
  rw [hw0] at HK0
  obtain ⟨iP, hiP, hzP, hsP, hbP⟩ := info_parts infoP
  obtain ⟨iB, hiB, hzB, hsB, hbB⟩ := info_parts infoB
  obtain ⟨cs1, mk1, O1⟩ := og_full (P := Try.prog) (t := 28) encP_ok Try.underlying28 hiP hzP hsP (by rw [hbP]; decide) (z := ⟨⟨0, 0, 0⟩, 0⟩) rfl l.length (by omega) w0
  have K1 := kept_alloc (kept_refl w0) (.cells cs1 58)
  obtain ⟨R, hR⟩ : ∃ R, w0.heap.size = R := ⟨_, rfl⟩
  generalize w0.alloc (.cells cs1 58) = w1 at *
  rw [hR] at mk1 O1
  obtain ⟨cs2, cp2, O2⟩ := og_copy (P := Try.prog) (t := 28) encP_ok Try.underlying28 hiP hsP O1 (by simp) (rg_kept encP_ok HR.out (kept_trans HK0.out K1)) rfl 3
  obtain ⟨csR, aR⟩ := og_type O1
  have K2 : Kept w0 (w1.setRow R cs2) := kept_setRow K1 (by omega) _
  have T2 : Og encN 3 33 (w1.setRow R cs2) B (.slice (some ⟨B, 0, none⟩) 0 0) [] := og_stays HT0.out K2
  generalize w1.setRow R cs2 = w2 at *
  obtain ⟨cs3, mk3, O3⟩ := og_full (P := Try.prog) (t := 56) encB_ok Try.underlying56 hiB hzB hsB (by rw [hbB]; decide) (z := false) rfl l.length (by omega) w2
  have K3 := kept_alloc (kept_refl w2) (.cells cs3 4)
  obtain ⟨Q, hQ⟩ : ∃ Q, w2.heap.size = Q := ⟨_, rfl⟩
  generalize w2.alloc (.cells cs3 4) = w3 at *
  rw [hQ] at mk3 O3
  have HRT0 : Hid (RT w B R Q l [] w3 (.slice (some ⟨B, 0, none⟩) 0 0)) := hid {
    t := og_stays T2 K3
    r := by rw [bump_nil]; exact og_low (og_stays O2 K3) (by have := HK0.out.2; omega)
    s := by
      rw [was_none]
      exact og_low O3 (by have := K2.2; have := HK0.out.2; omega)
    k := kept_trans HK0.out (kept_trans K2 K3)
    b := by have := K2.2; have := K3.2; have := HK0.out.2; omega }
  have HEnd : Hid (∀ tv rv u, Og encN 3 33 u B tv (tellL l (pks l k)) → Og encP 4 58 u B rv (keep n (bump l (pks l k))) → Kept w u → RTakeC l n k w (.returned (.tuple #[tv, rv])) u) := hid (fun tv rv u h1 h2 h3 => ⟨tv, rv, rfl, by rw [hB]; exact h1, by rw [hB]; exact h2, h3⟩)
  have HRst : Hid (∀ tv u, RT w B R Q l (pks l k) u tv → ∀ i, i < l.length → ∃ y, (bump l (pks l k))[i]? = some y ∧ u.cell? ⟨R, i * 4, none⟩ = some (.int .u8 y.x.node) ∧ u.cell? ⟨R, i * 4 + 1, none⟩ = some (.int .u8 y.x.st) ∧ u.cell? ⟨R, i * 4 + 2, none⟩ = some (.int .u32 y.x.inc) ∧ u.cell? ⟨R, i * 4 + 3, none⟩ = some (.int .i64 (y.told : Int))) := hid (fun tv u hh i hi => by
    have e := List.getElem?_eq_getElem (l := bump l (pks l k)) (i := i) (by rw [bump_len]; exact hi)
    exact ⟨_, e, og_P hh.r e⟩)
  have HTk : Hid ((bump l (pks l k)).take l.length = bump l (pks l k)) := hid (List.take_of_length_le (by rw [bump_len]; exact Nat.le_refl _))
  have HLt : Hid (∀ j, (keep n ((bump l (pks l k)).take j)).length ≤ 64) := hid (fun j => by
    have h1 := List.length_filter_le (fun q : Pc => decide (q.told < n)) ((bump l (pks l k)).take j)
    rw [List.length_take, bump_len] at h1
    unfold keep
    omega)
  have HBw : Hid (w.heap.size = B) := hid hB
  clear HT0 HK0 O1 O2 O3 K1 K2 K3 T2 aR hiP hzP hsP hbP hiB hzB hsB hbB ht hc1 hc2
  go_enter Try.func9, Try.ntmps9
  go_upto_block 0 with fail
  clear mk1 cp2 mk3 hw0 hB hR hQ
  go_cut [8] (fun tv wx => Hid (RT w B R Q l (pks l k) wx tv))
  case first =>
    clear HEnd HRst HTk HLt
    go_wp2_with fail
    go_loopw [8, 11] (fun tv nv wr => ∃ j : Nat, j ≤ k ∧ nv = .int .i64 (j : Int) ∧ Hid (RT w B R Q l (pks l j) wr tv)) (fun _ nv _ => k - (intOf nv).toNat)
    case atStart => exact ⟨0, Nat.zero_le _, rfl, HRT0⟩
    case round =>
      obtain ⟨j, hj, rfl, HRT⟩ := hrel
      clear HRT0
      by_cases hjk : j < k
      · have HP2 := hid (HPk.out j)
        have HNo : Hid (bk l (mm (pks l j)) l.length = none → pks l k = pks l j) := hid (fun hh => by
          have := pks_stop hh (k - j)
          rwa [show j + (k - j) = k by omega] at this)
        have HSm : Hid (∀ q, bk l (mm (pks l j)) l.length = some q → pks l (j + 1) = pks l j ++ [q]) := hid (fun q hh => pks_more hh)
        generalize pks l j = p at *
        have HNx := hid (bk_next l (mm p))
        have HBs : Hid (∀ i q, bk l (mm p) i = some q → q < i ∧ mm p q = false) := hid (fun i q hh => ⟨(bk_some hh).1, (bk_some hh).2.1⟩)
        go_wp2_with fail
        go_loopw [12, 33] (fun kv iv wq => ∃ i : Nat, i ≤ l.length ∧ iv = .int .i64 (i : Int) ∧ kv = .int .i64 (cod (bk l (mm p) i)) ∧ Hid (RT w B R Q l p wq u8)) (fun _ iv _ => l.length - (intOf iv).toNat)
        case atStart => exact ⟨0, Nat.zero_le _, rfl, rfl, HRT⟩
        case round =>
          obtain ⟨i, hi, rfl, rfl, HRq⟩ := hrel
          clear HRT
          by_cases hil : i < l.length
          · obtain ⟨y, hy, hy6⟩ := HG.out i hil
            obtain ⟨g, o, rfl⟩ := HP.out (by omega)
            obtain ⟨c0, c1, c2, c3⟩ := rg_P (rg_kept encP_ok HR.out HRq.out.k) hy
            have s0 := og_cell encB_ok HRq.out.s (i := i) (j := 0) (was_get p hil) rfl
            rw [Nat.mul_one, Nat.add_zero] at s0
            have HTy := hid (tol_at hy)
            clear hy c0 c1 c2
            cases hw : mm p i with
            | true =>
              rw [hw] at s0
              have HX : Hid (bk l (mm p) (i + 1) = bk l (mm p) i) := hid (by
                rw [HNx.out, hw]
                unfold nxt
                cases bk l (mm p) i <;> simp)
              clear hw
              go_wp2_with fail
              go_quiet (fail)
              go_wp2_with fail
              go_roundw
              case rel => exact ⟨i + 1, by omega, by go_num, by rw [HX.out], hid (rt_kept HRq.out (kept_drewN (kept_refl _) _))⟩
              case measure => simp [intOf]; omega
            | false =>
              rw [hw] at s0
              cases hb : bk l (mm p) i with
              | none =>
                have HX : Hid (bk l (mm p) (i + 1) = some i) := hid (by rw [HNx.out, hw, hb]; rfl)
                have e5 : cod none = -1 := rfl
                rw [e5]
                clear hw hb
                go_wp2_with fail
                go_quiet (fail)
                go_wp2_with fail
                go_roundw
                case rel => exact ⟨i + 1, by omega, by go_num, by rw [HX.out]; rfl, hid (rt_kept HRq.out (kept_drewN (kept_refl _) _))⟩
                case measure => simp [intOf]; omega
              | some q =>
                obtain ⟨hq, hq2⟩ := HBs.out i q hb
                obtain ⟨z, hz, hz6⟩ := HG.out q (by omega)
                obtain ⟨d0, d1, d2, d3⟩ := rg_P (rg_kept encP_ok HR.out HRq.out.k) hz
                have HTz := hid (tol_at hz)
                have e5 : cod (some q) = (q : Int) := rfl
                rw [e5]
                have hn0 : decide ((q : Int) < 0) = false := by simp
                have b1 : (q : Int) < (l.length : Int) := by omega
                clear hz d0 d1 d2
                by_cases hlt : y.told < z.told
                · have HX : Hid (bk l (mm p) (i + 1) = some i) := hid (by
                    rw [HNx.out, hw, hb]
                    unfold nxt
                    simp only
                    rw [HTy.out, HTz.out]
                    simp [hlt])
                  have hd : decide ((y.told : Int) < (z.told : Int)) = true := by simp; omega
                  have hd2 : decide (y.told < z.told) = true := by simpa using hlt
                  clear hw hb e5 hq2
                  go_wp2_with fail
                  go_quiet (fail)
                  go_wp2_with fail
                  go_roundw
                  case rel => exact ⟨i + 1, by omega, by go_num, by rw [HX.out]; rfl, hid (rt_kept HRq.out (kept_drewN (kept_refl _) _))⟩
                  case measure => simp [intOf]; omega
                · have HX : Hid (bk l (mm p) (i + 1) = some q) := hid (by
                    rw [HNx.out, hw, hb]
                    unfold nxt
                    simp only
                    rw [HTy.out, HTz.out]
                    simp [hlt])
                  have hd : decide ((y.told : Int) < (z.told : Int)) = false := by simp; omega
                  have hd2 : decide (y.told < z.told) = false := by simpa using hlt
                  clear hw hb e5 hq2
                  go_wp2_with fail
                  go_quiet (fail)
                  go_wp2_with fail
                  go_roundw
                  case rel => exact ⟨i + 1, by omega, by go_num, by rw [HX.out]; rfl, hid (rt_kept HRq.out (kept_drewN (kept_refl _) _))⟩
                  case measure => simp [intOf]; omega
          · have he : i = l.length := by omega
            subst he
            cases hb : bk l (mm p) l.length with
            | none =>
              have HE := hid (HNo.out hb)
              have e5 : cod none = -1 := rfl
              rw [e5]
              clear hb
              go_wp2_with fail
              go_meet
              case rel => exact hid (by rw [HE.out]; exact HRq.out)
            | some q =>
              obtain ⟨hq, hq2⟩ := HBs.out _ q hb
              have HE := hid (HSm.out q hb)
              have hqp : q ∉ p := mm_false.1 hq2
              obtain ⟨z, hz, hz6⟩ := HG.out q hq
              obtain ⟨g, o, rfl⟩ := HP.out (by omega)
              have e5 : cod (some q) = (q : Int) := rfl
              rw [e5]
              have hn0 : decide ((q : Int) < 0) = false := by simp
              have b1 : (q : Int) < (l.length : Int) := by omega
              have HZ := hid hz
              have HQp := hid hqp
              have HTl : Hid (tellL l (p ++ [q]) = tellL l p ++ [z.x]) := hid (by rw [tell_more, nws_at hz])
              have HLl : Hid ((tellL l p).length ≤ 64) := hid (by rw [tell_len]; have := HP2.out.2.2; omega)
              have hs0 := og_cell encB_ok HRq.out.s (i := q) (j := 0) (was_get p hq) rfl
              rw [Nat.mul_one, Nat.add_zero] at hs0
              have hsf := og_frozen HRq.out.s
              obtain ⟨csQ, aQ⟩ := og_type HRq.out.s
              have HS1 : Hid (Og encB 1 4 (wr.setCell ⟨Q, q, none⟩ (.bool true)) B (.slice (some ⟨Q, 0, none⟩) l.length l.length) (wasL l.length (p ++ [q]))) := hid (by
                have := og_put encB_ok HRq.out.s (i := q) (j := 0) (x' := true) (u := .bool true) (was_get p hq) (by decide) rfl
                rw [Nat.mul_one, Nat.add_zero, was_set hq] at this
                exact this)
              have HT1 := hid (og_other HRq.out.t aQ (by decide) q (.bool true))
              have HR1 := hid (og_other HRq.out.r aQ (by decide) q (.bool true))
              have HQB : Hid (B ≤ Q) := hid (og_lt HRq.out.s rfl)
              have HK1 : Hid (Kept w (wr.setCell ⟨Q, q, none⟩ (.bool true))) := hid (kept_set HRq.out.k (by have := HQB.out; have := HBw.out; omega) q (.bool true))
              have HB1 : Hid (B ≤ (wr.setCell ⟨Q, q, none⟩ (.bool true)).heap.size) := hid (by rw [World.size_setCell]; exact HRq.out.b)
              obtain ⟨c0, c1, c2, c3⟩ := rg_P (rg_kept encP_ok HR.out HK1.out) hz
              have HKa := hid (kept_alloc HK1.out (.cells #[.int .u8 z.x.node, .int .u8 z.x.st, .int .u32 z.x.inc] 33))
              have HTa := hid (og_stays HT1.out (kept_alloc (kept_refl _) (.cells #[.int .u8 z.x.node, .int .u8 z.x.st, .int .u32 z.x.inc] 33)))
              have HRa := hid (og_stays HR1.out (kept_alloc (kept_refl _) (.cells #[.int .u8 z.x.node, .int .u8 z.x.st, .int .u32 z.x.inc] 33)))
              have HSa := hid (og_stays HS1.out (kept_alloc (kept_refl _) (.cells #[.int .u8 z.x.node, .int .u8 z.x.st, .int .u32 z.x.inc] 33)))
              have HAl := hid (rg_alone encN_ok (y := z.x) (at_new (wr.setCell ⟨Q, q, none⟩ (.bool true)) #[.int .u8 z.x.node, .int .u8 z.x.st, .int .u32 z.x.inc] 33))
              have HBa : Hid (B ≤ ((wr.setCell ⟨Q, q, none⟩ (.bool true)).alloc (.cells #[.int .u8 z.x.node, .int .u8 z.x.st, .int .u32 z.x.inc] 33)).heap.size) := hid (by rw [World.size_alloc]; have := HB1.out; omega)
              have hw6 : IntKind.i64.wrap ((z.told : Int) + 1) = (z.told : Int) + 1 := IntWalk.i64_in _ (by omega)
              clear hb hz hqp aQ hq2 e5 HT1 HR1 HS1 HK1 HB1
              simp only [World.size_setCell] at HAl
              go_wp2_with (at_builtin; go_must (refine wpList_gapp rfl (.tmp 65) (.tmp 71) rfl encN_ok tyN (by decide) B _ _ _ _ rfl HTa.out rfl HAl.out (by have := HLl.out; simp; omega) HBa.out ?_; intro v3 w4 hown3 hgrow3 hnil3; have HR4 := hid (og_beside HRa.out HTa.out (by decide) hgrow3); have HS4 := hid (og_beside HSa.out HTa.out (by decide) hgrow3); obtain ⟨d0, d1, d2, d3⟩ := og_P HR4.out (bump_at HZ.out HQp.out); have df := og_frozen HR4.out))
              obtain ⟨csR4, aR4⟩ := og_type HR4.out
              have HKg := hid (kept_gr HKa.out hgrow3 (fun j hj => by have := og_lt HTa.out hj; have := HBw.out; omega))
              have HRB : Hid (B ≤ R) := hid (og_lt HR4.out rfl)
              have HRT4 : Hid (RT w B R Q l (p ++ [q]) (w4.setCell ⟨R, q * 4 + 3, none⟩ (.int .i64 ((z.told : Int) + 1))) v3) := hid {
                t := by rw [HTl.out]; exact og_other hown3 aR4 (by decide) _ _
                r := by
                  have := og_put encP_ok HR4.out (i := q) (j := 3) (x' := ⟨z.x, z.told + 1⟩) (u := .int .i64 ((z.told : Int) + 1)) (bump_at HZ.out HQp.out) (by decide) rfl
                  rw [bump_set HZ.out HQp.out] at this
                  exact this
                s := og_other HS4.out aR4 (by decide) _ _
                k := kept_set HKg.out (by have := HRB.out; have := HBw.out; omega) _ _
                b := by rw [World.size_setCell]; have := hgrow3.size; have := HBa.out; omega }
              go_roundw
              case rel => exact ⟨j + 1, by omega, by go_num, hid (by rw [HE.out]; exact HRT4.out)⟩
              case measure => simp [intOf]; omega
      · have he : j = k := by omega
        subst he
        go_wp2_with fail
        go_meet
        case rel => exact HRT
  case rest =>
    rename World => wx
    have HRT : Hid (RT w B R Q l (pks l k) wx u8) := hcut
    have HRl : Hid (R < wx.heap.size) := hid (og_at_lt HRT.out.r)
    have HO0 := hid (builtP wx)
    have HK0 := hid (kept_alloc (kept_refl wx) (.cells #[] 58))
    have HBx : Hid (B ≤ wx.heap.size) := hid HRT.out.b
    have HRT1 := hid (rt_kept HRT.out HK0.out)
    clear HRT0 HPk HG HP HR
    go_wp2_with fail
    generalize wx.alloc (.cells #[] 58) = w5 at *
    generalize hB5 : wx.heap.size = B5 at *
    have HB5 : Hid (B5 ≤ w5.heap.size) := hid (by have := HK0.out.2; omega)
    clear hB5
    go_loopw [14, 84] (fun rv iv wr => ∃ i : Nat, i ≤ l.length ∧ iv = .int .i64 (i : Int) ∧ Hid (B5 ≤ wr.heap.size) ∧ Hid (RT w B R Q l (pks l k) wr u8) ∧ Hid (Og encP 4 58 wr B5 rv (keep n ((bump l (pks l k)).take i)))) (fun _ iv _ => l.length - (intOf iv).toNat)
    case atStart => exact ⟨0, Nat.zero_le _, rfl, HB5, HRT1, HO0⟩
    case round =>
      obtain ⟨i, hi, rfl, HBr, HRr, HO⟩ := hrel
      clear HRT HRT1 HO0 HK0 HB5
      by_cases hil : i < l.length
      · obtain ⟨y, hy, c0, c1, c2, c3⟩ := HRst.out _ _ HRr.out i hil
        have HNx := hid (keep_next hy n)
        clear hy
        by_cases hlt : y.told < n
        · rw [if_pos hlt] at HNx
          have hd : decide ((y.told : Int) < (n : Int)) = true := by simp; omega
          have hd2 : decide (y.told < n) = true := by simpa using hlt
          have HKa := hid (kept_alloc (kept_refl wr) (.cells #[.int .u8 y.x.node, .int .u8 y.x.st, .int .u32 y.x.inc, .int .i64 (y.told : Int)] 58))
          have HOa := hid (og_stays HO.out HKa.out)
          have HRa := hid (rt_kept HRr.out HKa.out)
          have HAl := hid (rg_alone encP_ok (y := y) (at_new wr #[.int .u8 y.x.node, .int .u8 y.x.st, .int .u32 y.x.inc, .int .i64 (y.told : Int)] 58))
          have HBa : Hid (B5 ≤ (wr.alloc (.cells #[.int .u8 y.x.node, .int .u8 y.x.st, .int .u32 y.x.inc, .int .i64 (y.told : Int)] 58)).heap.size) := hid (by rw [World.size_alloc]; have := HBr.out; omega)
          go_wp2_with (at_builtin; go_must (refine wpList_gapp rfl (.tmp 94) (.tmp 99) rfl encP_ok tyP (by decide) B5 _ _ _ _ rfl HOa.out rfl HAl.out (by have := HLt.out i; simp; omega) HBa.out ?_; intro v3 w6 hown3 hgrow3 hnil3))
          have HR6 := hid (rt_grow HRa.out HOa.out HRl.out (by have := HBw.out; have := HBx.out; omega) hgrow3)
          have HO6 : Hid (Og encP 4 58 w6 B5 v3 (keep n ((bump l (pks l k)).take (i + 1)))) := hid (by rw [HNx.out]; exact hown3)
          have HB6 : Hid (B5 ≤ w6.heap.size) := hid (by have := hgrow3.size; have := HBa.out; omega)
          go_roundw
          case rel => exact ⟨i + 1, by omega, by go_num, HB6, HR6, HO6⟩
          case measure => simp [intOf]; omega
        · rw [if_neg hlt, List.append_nil] at HNx
          have hd : decide ((y.told : Int) < (n : Int)) = false := by simp; omega
          have hd2 : decide (y.told < n) = false := by simpa using hlt
          go_wp2_with fail
          go_roundw
          case rel => exact ⟨i + 1, by omega, by go_num, HBr, HRr, hid (by rw [HNx.out]; exact HO.out)⟩
          case measure => simp [intOf]; omega
      · have he : i = l.length := by omega
        subst he
        rw [HTk.out] at HO
        go_wp2_with fail
        go_ret2
        exact HEnd.out _ _ _ HRr.out.t (og_low HO.out HBx.out) HRr.out.k
end Go.Proofs.Ytalcbahnhiibkaa
