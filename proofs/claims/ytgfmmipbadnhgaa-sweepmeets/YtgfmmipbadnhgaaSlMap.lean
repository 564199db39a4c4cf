/- The map of the seen ones that count: the contracts of lacks and counting. Keys have at most 3000 bytes, rows at most 4096 members. -/
import Derived.Test.YtgfmmipbadnhgaaSlRec
namespace Go.Proofs.Ytgfmmipbadnhgaa
open Go.ChangeShapes Go.WideShapes Go.ChangeAt Go.RowKit
set_option linter.unusedVariables false
set_option linter.unusedSimpArgs false
set_option maxRecDepth 100000

def edS (x : Sn) : DataW Unit := .agg [.lit (.string x.key.data.toList), .lit (.int .u64 x.s.p), .lit (.int .u32 x.s.l), .lit (.int .u8 x.s.n), .lit (.int .u8 x.kind)]
def evS (x : Sn) : Value := .agg #[.string x.key, .int .u64 x.s.p, .int .u32 x.s.l, .int .u8 x.s.n, .int .u8 x.kind]
def rdS (v : Value) : Option (DataW Unit × List MemPlace) :=
  match v with
  | .agg xs => match xs.toList with
    | [.string k, .int .u64 p, .int .u32 l, .int .u8 n, .int .u8 q] => some (edS ⟨k, ⟨p, l, n⟩, q⟩, [])
    | _ => none
  | _ => none
theorem rdS_inv {v : Value} {y : DataW Unit × List MemPlace} (h : rdS v = some y) : ∃ c, v = evS c ∧ y = (edS c, []) := by
  unfold rdS at h
  split at h
  · rename_i xs
    split at h
    · rename_i k p l n q hx
      injection h with h
      refine ⟨⟨k, ⟨p, l, n⟩, q⟩, ?_, h.symm⟩
      unfold evS
      congr 1
      exact Array.toList_inj.1 hx
    · cases h
  · cases h
theorem edS_inj {a b : Sn} (h : edS a = edS b) : a = b := by
  obtain ⟨k, ⟨p, l, n⟩, q⟩ := a
  obtain ⟨k', ⟨p', l', n'⟩, q'⟩ := b
  unfold edS at h
  injection h with h
  simp only [List.cons.injEq, DataW.lit.injEq, Lit.string.injEq, Lit.int.injEq, true_and, and_true] at h
  obtain ⟨h1, h2, h3, h4, h5⟩ := h
  subst h2 h3 h4 h5
  have : k = k' := klT_inj k k' (by unfold klT; rw [h1])
  rw [this]
def zS : Sn := ⟨⟨#[]⟩, ⟨0, 0, 0⟩, 0⟩
def mapS : MapD ByteArray Sn := { t := 46, k := 9, e := 43, kv := .string, kl := klT, ok := fun s => s.size ≤ maxLen, ev := evS, ed := edS, rd := rdS, z := zS }
theorem mapS_ok : mapS.Ok Try.prog := {
  und := Try.underlying46
  keyed := Maps.string_keyed Try.underlying9
  key := fun s h => WideMaps.keyOf_string_mk Try.underlying9 h
  inj := klT_inj
  zero := zeroS
  reads := fun _ => rfl
  inv := fun v y ps h => by
    obtain ⟨c, e1, e2⟩ := rdS_inv h
    injection e2 with e2 _
    rw [e1, edS_inj e2]
    rfl
  invK := fun key l h => klT_inv Try.underlying9 h
  invV := fun v y h => rdS_inv h }
/- A map's function lacks a seen one. -/
def lack (g : ByteArray → Option Sn) (s : Sn) : Bool := match g s.key with | none => true | some b => bh b s
set_option maxHeartbeats 1600000 in
theorem lacks_any (m c : Nat) (g : ByteArray → Option Sn) (s : Sn) (hs : s.key.size ≤ maxLen) (w : World) (h : Gm Try.prog mapS w m g c) : Calls Try.prog 23 #[.map (some m), .agg #[.string s.key, .int .u64 s.s.p, .int .u32 s.s.l, .int .u8 s.s.n, .int .u8 s.kind]] w fun e w' => e = .returned (.bool (lack g s)) ∧ Kept w w' := by
  have hz := zeroS
  have hlook := gm_look mapS_ok (gm_kept h (kept_alloc (kept_refl w) (.cells #[.string s.key, .int .u64 s.s.p, .int .u32 s.s.l, .int .u8 s.s.n, .int .u8 s.kind] 43))) (x := s.key) hs
  have HK := hid (kept_alloc (kept_refl w) (.cells #[.string s.key, .int .u64 s.s.p, .int .u32 s.s.l, .int .u8 s.s.n, .int .u8 s.kind] 43))
  clear h hs
  cases e : g s.key with
  | none =>
    rw [e] at hlook
    have hl : (Instr.lookup 46 (.map (some m)) (.string s.key) true).run Try.prog (w.alloc (.cells #[.string s.key, .int .u64 s.s.p, .int .u32 s.s.l, .int .u8 s.s.n, .int .u8 s.kind] 43)) = .ok (.tuple #[.agg #[.string ⟨#[]⟩, .int .u64 0, .int .u32 0, .int .u8 0, .int .u8 0], .bool false]) (w.alloc (.cells #[.string s.key, .int .u64 s.s.p, .int .u32 s.s.l, .int .u8 s.s.n, .int .u8 s.kind] 43)) := hlook
    have HE : Hid (lack g s = true) := hid (by unfold lack; rw [e])
    have HK2 := hid (kept_alloc HK.out (.cells #[.string ⟨#[]⟩, .int .u64 0, .int .u32 0, .int .u8 0, .int .u8 0] 43))
    clear hlook e HK
    go_enter Try.func23, Try.ntmps23
    go_wp2_with fail
    go_ret
    exact ⟨says_bool HE.out.symm, HK2.out⟩
  | some b =>
    rw [e] at hlook
    have hl : (Instr.lookup 46 (.map (some m)) (.string s.key) true).run Try.prog (w.alloc (.cells #[.string s.key, .int .u64 s.s.p, .int .u32 s.s.l, .int .u8 s.s.n, .int .u8 s.kind] 43)) = .ok (.tuple #[.agg #[.string b.key, .int .u64 b.s.p, .int .u32 b.s.l, .int .u8 b.s.n, .int .u8 b.kind], .bool true]) (w.alloc (.cells #[.string s.key, .int .u64 s.s.p, .int .u32 s.s.l, .int .u8 s.s.n, .int .u8 s.kind] 43)) := hlook
    have HE : Hid (lack g s = bh b s) := hid (by unfold lack; rw [e])
    have HK2 := hid (kept_alloc HK.out (.cells #[.string b.key, .int .u64 b.s.p, .int .u32 b.s.l, .int .u8 b.s.n, .int .u8 b.kind] 43))
    clear hlook e HK
    go_enter Try.func23, Try.ntmps23
    go_wp2_with fail
    refine (behindS_any b s _).mono ?_
    rintro e w1 ⟨rfl, k1⟩
    have HK3 := hid (kept_trans HK2.out k1)
    clear k1 HK2
    go_wp2_with fail
    go_ret
    exact ⟨says_bool HE.out.symm, HK3.out⟩
/- What counts, step by step. -/
theorem best_snoc (q : ByteArray) : ∀ (l : List Sn) (o : Option Sn) (t : Sn), bestOf q o (l ++ [t]) = (if keq t.key q then (match bestOf q o l with | none => some t | some b => if bh b t then some t else some b) else bestOf q o l)
  | [], o, t => rfl
  | x :: l, o, t => by
    rw [List.cons_append]
    unfold bestOf
    exact best_snoc q l _ t
theorem best_next {l : List Sn} {k : Nat} {x : Sn} (h : l[k]? = some x) : (fun q => bestOf q none (l.take (k + 1))) = if lack (fun q => bestOf q none (l.take k)) x then (fun q => if q = x.key then some x else bestOf q none (l.take k)) else (fun q => bestOf q none (l.take k)) := by
  funext q
  rw [take_next h, best_snoc]
  by_cases e : q = x.key
  · subst e
    unfold lack
    rw [(keq_iff _ _).2 rfl, if_pos rfl]
    cases g : bestOf x.key none (l.take k) with
    | none => simp [g]
    | some b => cases hb : bh b x <;> simp [hb, g]
  · have : keq x.key q = false := (keq_false _ _).2 (fun h => e h.symm)
    rw [this, if_neg (by simp)]
    generalize lack (fun q => bestOf q none (l.take k)) x = z
    cases z <;> simp [e]
theorem lack_cov (l : List Sn) (x : Sn) : lack (fun q => bestOf q none l) x = !cov l x := by
  rw [best_cov]
  unfold lack
  show (match bestOf x.key none l with | none => true | some b => bh b x) = _
  cases bestOf x.key none l <;> simp
def CntC (t : List Sn) (w : World) (e : Ending) (w' : World) : Prop := ∃ m c, e = .returned (.map (some m)) ∧ Gm Try.prog mapS w' m (fun q => bestOf q none t) c ∧ c ≤ t.length ∧ w.heap.size ≤ m ∧ Kept w w'
set_option maxHeartbeats 3200000 in
theorem counting_any (t : List Sn) (hn : t.length ≤ 4096) (hs : SmlS t) (v : Value) (w : World) (h : Rg encS 5 w v t) : Calls Try.prog 22 #[v] w (CntC t w) := by
  have HR := hid h
  have HSm := hid hs
  obtain ⟨a, cap, rfl, -, -, -, -⟩ := h
  have HG : Hid (∀ k, k < t.length → ∃ y, t[k]? = some y) := hid (fun k hk => ⟨t[k], List.getElem?_eq_getElem hk⟩)
  have HP : Hid (0 < t.length → ∃ g o, a = some ⟨g, o, none⟩) := hid (fun hp => by
    obtain ⟨g, o, c, e⟩ := rg_pos HR.out hp
    injection e with e1
    exact ⟨g, o, e1⟩)
  have HT : Hid (t.take t.length = t) := hid List.take_length
  have HEnd : Hid (∀ m c u, Gm Try.prog mapS u m (fun q => bestOf q none t) c → c ≤ t.length → w.heap.size ≤ m → Kept w u → CntC t w (.returned (.map (some m))) u) := hid (fun m c u h1 h2 h3 h4 => ⟨m, c, rfl, h1, h2, h3, h4⟩)
  have HM0 := hid (gm_made (P := Try.prog) (M := mapS) w)
  have HK0 := hid (kept_alloc (kept_refl w) (.map #[] 0))
  have HB := hid (Nat.le_refl w.heap.size)
  generalize hnn : t.length = n at *
  clear hnn hs
  have hmm := @run_makeMap Try.prog
  go_enter Try.func22, Try.ntmps22
  go_wp2_with fail
  clear hmm
  generalize w.alloc (.map #[] 0) = w0 at *
  generalize hm : w.heap.size = m at *
  have HBm := hid hm
  clear hm
  go_loopw [9] (fun j wr => ∃ k c : Nat, k ≤ n ∧ c ≤ k ∧ j = .int .i64 (k : Int) ∧ Hid (Gm Try.prog mapS wr m (fun q => bestOf q none (t.take k)) c) ∧ Hid (Kept w wr)) (fun j _ => n - (intOf j).toNat)
  case atStart => exact ⟨0, 0, Nat.zero_le _, Nat.zero_le _, rfl, HM0, HK0⟩
  case round =>
    obtain ⟨k, c, hk, hck, rfl, HM, HKr⟩ := hrel
    clear HM0 HK0
    by_cases hlt : k < n
    · obtain ⟨x, hx⟩ := HG.out k hlt
      obtain ⟨g, o, rfl⟩ := HP.out (by omega)
      have hxs : x.key.size ≤ maxLen := by have := HSm.out x (List.mem_of_getElem? hx); unfold maxLen; omega
      have HXs := hid hxs
      have HNx := hid (best_next hx)
      obtain ⟨c0, c1, c2, c3, c4⟩ := rg_S (rg_kept encS_ok HR.out HKr.out) hx
      have zs := zeroS wr
      have HA1 := hid (at_new wr #[.string x.key, .int .u64 x.s.p, .int .u32 x.s.l, .int .u8 x.s.n, .int .u8 x.kind] 43)
      have HK1 := hid (kept_alloc HKr.out (.cells #[.string x.key, .int .u64 x.s.p, .int .u32 x.s.l, .int .u8 x.s.n, .int .u8 x.kind] 43))
      have HM1 := hid (gm_kept HM.out (kept_alloc (kept_refl wr) (.cells #[.string x.key, .int .u64 x.s.p, .int .u32 x.s.l, .int .u8 x.s.n, .int .u8 x.kind] 43)))
      clear hx hxs HM
      go_wp2_with fail
      clear c0 c1 c2 c3 c4 zs
      generalize wr.alloc (.cells #[.string x.key, .int .u64 x.s.p, .int .u32 x.s.l, .int .u8 x.s.n, .int .u8 x.kind] 43) = w1 at *
      generalize wr.heap.size = X at *
      refine (lacks_any m c _ x HXs.out w1 HM1.out).mono ?_
      rintro e w2 ⟨rfl, k2⟩
      have HM2 := hid (gm_kept HM1.out k2)
      have HK2 := hid (kept_trans HK1.out k2)
      obtain ⟨x0, x1, x2, x3, x4, -⟩ := at_cells5 (at_kept HA1.out k2)
      clear k2 HM1 HK1 HA1
      cases hl : lack (fun q => bestOf q none (t.take k)) x with
      | false =>
        rw [hl, if_neg (by simp)] at HNx
        go_wp2_with fail
        go_roundw
        case rel => exact ⟨k + 1, c, by omega, by omega, by go_num, hid (by rw [HNx.out]; exact HM2.out), HK2⟩
        case measure => simp [intOf]; omega
      | true =>
        rw [hl, if_pos rfl] at HNx
        obtain ⟨w3, hput, hg3, ht3⟩ := gm_put mapS_ok HM2.out (by omega) (x := x.key) HXs.out x
        have hput' : (Instr.mapUpdate 46 (.map (some m)) (.string x.key) (.agg #[.string x.key, .int .u64 x.s.p, .int .u32 x.s.l, .int .u8 x.s.n, .int .u8 x.kind])).run Try.prog w2 = .ok () w3 := hput
        obtain ⟨c3, hc3, HM3⟩ : ∃ c3, c3 ≤ k + 1 ∧ Hid (Gm Try.prog mapS w3 m (fun q => if q = x.key then some x else bestOf q none (t.take k)) c3) := ⟨_, by split <;> omega, hid hg3⟩
        have HK3 := hid (kept_turned HK2.out (by have := HBm.out; omega) ht3)
        clear hput hg3 ht3
        go_wp2_with fail
        go_roundw
        case rel => exact ⟨k + 1, c3, by omega, hc3, by go_num, hid (by rw [HNx.out]; exact HM3.out), HK3⟩
        case measure => simp [intOf]; omega
    · have he : k = n := by omega
      subst he
      rw [HT.out] at HM
      go_wp2_with fail
      go_ret
      exact HEnd.out _ _ _ HM.out hck (by have := HBm.out; omega) HKr.out
end Go.Proofs.Ytgfmmipbadnhgaa
