/- The contract of the reference's Moved; what the law's great lets by. Keys have at most 1000 bytes, rows at most 4096 members, at most 1000 keys. -/
import Derived.Test.YtfdnfnnagchjcaaRgRef
import Derived.Handy
namespace Go.Proofs.Ytfdnfnnagchjcaa
open Go.ChangeShapes Go.WideShapes Go.ChangeAt Go.RowKit
set_option linter.unusedVariables false
set_option linter.unusedSimpArgs false
set_option maxRecDepth 100000

theorem moved_next {l : List ByteArray} {k : Nat} {x : ByteArray} (h : l[k]? = some x) (a b : List Int) : moved (l.take (k + 1)) a b = moved (l.take k) a b ++ (if sameO (owners x a) (owners x b) then [] else [x]) := by
  unfold moved
  rw [take_next h, List.filter_append]
  congr 1
  cases e : sameO (owners x a) (owners x b) <;> simp [e]
theorem moved_len (l : List ByteArray) (a b : List Int) : (moved l a b).length ≤ l.length := List.length_filter_le _ _
theorem all_next {α : Type} {l : List α} {k : Nat} {x : α} (h : l[k]? = some x) (p : α → Bool) : (l.take (k + 1)).all p = ((l.take k).all p && p x) := by
  rw [take_next h, List.all_append]
  simp
set_option maxHeartbeats 6400000 in
theorem rmoved_any (l : List ByteArray) (a b : List Int) (hl : l.length ≤ 1000) (hk : ∀ k ∈ l, k.size ≤ 1000) (ha : l ≠ [] → a.length ≤ 4096) (hb : l ≠ [] → b.length ≤ 4096) (v u z : Value) (w : World) (h : Rg encK 1 w v l) (hu : Rg encU 1 w u a) (hz : Rg encU 1 w z b) : Calls Try.prog 20 #[v, u, z] w (GRowN encK 1 9 (moved l a b) w) := by
  have HR := hid h
  have HU := hid hu
  have HZ := hid hz
  have HKs := hid hk
  have HOa := hid (fun (hne : l ≠ []) key hk u' w' h => rowners_any key hk a (ha hne) u' w' h)
  have HOb := hid (fun (hne : l ≠ []) key hk u' w' h => rowners_any key hk b (hb hne) u' w' h)
  have HIn := hid (fun (m : List Int) hm v' x w' h => in_any m hm v' x w' h)
  obtain ⟨d, cap, rfl, -, -, -, -⟩ := h
  have HG : Hid (∀ k, k < l.length → ∃ y, l[k]? = some y) := hid (fun k hk => ⟨l[k], List.getElem?_eq_getElem hk⟩)
  have HP : Hid (0 < l.length → ∃ g o, d = some ⟨g, o, none⟩) := hid (fun hp => by
    obtain ⟨g, o, c, e⟩ := rg_pos HR.out hp
    injection e with e1
    exact ⟨g, o, e1⟩)
  have HT : Hid (l.take l.length = l) := hid List.take_length
  have HEnd : Hid (∀ v u, Og encK 1 9 u w.heap.size v (moved l a b) → v ≠ .slice none 0 0 → Kept w u → GRowN encK 1 9 (moved l a b) w (.returned v) u) := hid (fun v u h1 h2 h3 => ⟨v, rfl, h1, h2, h3⟩)
  have HLt : Hid (∀ k, (moved (l.take k) a b).length ≤ 1000) := hid (fun k => by have := moved_len (l.take k) a b; rw [List.length_take] at this; omega)
  have HO0 := hid (builtK w)
  have HK0 := hid (kept_alloc (kept_refl w) (.cells #[] 9))
  clear hu hz hk ha hb
  generalize hnn : l.length = n at *
  clear hnn
  go_enter Try.func20, Try.ntmps20
  go_wp2_with fail
  generalize w.alloc (.cells #[] 9) = w0 at *
  generalize hB0 : w.heap.size = B0 at *
  have HB0 := hid hB0
  clear hB0
  go_loopw [7, 16] (fun ks j wr => ∃ k : Nat, k ≤ n ∧ j = .int .i64 (k : Int) ∧ Hid (Og encK 1 9 wr B0 ks (moved (l.take k) a b)) ∧ Hid (ks ≠ .slice none 0 0) ∧ Hid (Kept w wr)) (fun _ j _ => n - (intOf j).toNat)
  case atStart => exact ⟨0, Nat.zero_le _, rfl, HO0, hid (by simp), HK0⟩
  case round =>
    obtain ⟨k, hk, rfl, HO, HNn, HKr⟩ := hrel
    clear HO0 HK0
    by_cases hlt : k < n
    · obtain ⟨x, hx⟩ := HG.out k hlt
      obtain ⟨g, o, rfl⟩ := HP.out (by omega)
      have HX := hid hx
      have HNe : Hid (l ≠ []) := hid (fun e => by rw [e] at hx; simp at hx)
      have HXs := hid (HKs.out x (List.mem_of_getElem? hx))
      have HNx := hid (moved_next hx a b)
      have c0 := rg_K (rg_kept encK_ok HR.out HKr.out) hx
      clear hx
      go_wp2_with fail
      clear c0
      refine (HOa.out HNe.out x HXs.out u wr (rg_kept encU_ok HU.out HKr.out)).mono ?_
      rintro e w1 ⟨v1, rfl, o1, -, k1⟩
      have HRa := hid (rg_own encU_ok o1)
      have HK1 := hid (kept_trans HKr.out k1)
      have HO1 := hid (og_stays HO.out k1)
      clear o1 k1 HKr HO
      have c1 := rg_K (rg_kept encK_ok HR.out HK1.out) HX.out
      go_wp2_with fail
      clear c1
      refine (HOb.out HNe.out x HXs.out z w1 (rg_kept encU_ok HZ.out HK1.out)).mono ?_
      rintro e w2 ⟨v2, rfl, o2, -, k2⟩
      have HRb := hid (rg_own encU_ok o2)
      have HRa2 := hid (rg_kept encU_ok HRa.out k2)
      have HK2 := hid (kept_trans HK1.out k2)
      have HO2 := hid (og_stays HO1.out k2)
      have HLa := hid (owners_len x a)
      have HLb := hid (owners_len x b)
      clear o2 k2 HK1 HO1 HRa
      have HSm : Hid (sameO (owners x a) (owners x b) = (decide ((owners x a).length = (owners x b).length) && (owners x a).all (mem (owners x b)))) := hid rfl
      generalize owners x a = p at *
      generalize owners x b = q at *
      obtain ⟨d1, cap1, rfl, -, -, -, -⟩ := HRa2.out
      have HGp : Hid (∀ k, k < p.length → ∃ y, p[k]? = some y) := hid (fun k hk => ⟨p[k], List.getElem?_eq_getElem hk⟩)
      have HPp : Hid (0 < p.length → ∃ g o, d1 = some ⟨g, o, none⟩) := hid (fun hp => by
        obtain ⟨g, o, c, e⟩ := rg_pos HRa2.out hp
        injection e with e1
        exact ⟨g, o, e1⟩)
      have HTp : Hid (p.take p.length = p) := hid List.take_length
      have HEq : Hid (decide (p.length = q.length) = ((p.length : Int) == (q.length : Int))) := hid (by
        rw [Bool.eq_iff_iff, decide_eq_true_eq, beq_iff_eq]
        omega)
      obtain ⟨d2, cap2, rfl, -, -, -, -⟩ := HRb.out
      have HLq : Hid (q.length ≤ 4096) := hid (by have := HLb.out; omega)
      have HIq := hid (fun y w' (h : Rg encU 1 w' (.slice d2 q.length cap2) q) => HIn.out q HLq.out _ y w' h)
      have hp2 : p.length ≤ 2 := HLa.out
      generalize hpn : p.length = pn at *
      have HPn := hid hpn
      clear hpn
      generalize hqn : q.length = qn at *
      clear hqn
      go_wp2_with fail
      obtain ⟨W0, rfl⟩ : ∃ W0, W0 = w2 := ⟨w2, rfl⟩
      go_loopw [11, 38] (fun sm j wq => ∃ (i : Nat), i ≤ pn ∧ j = .int .i64 (i : Int) ∧ sm = .bool (((pn : Int) == (qn : Int)) && (p.take i).all (mem q)) ∧ wq = W0) (fun _ j _ => pn - (intOf j).toNat)
      case atStart => exact ⟨0, Nat.zero_le _, rfl, by simp, rfl⟩
      case round =>
        obtain ⟨i, hi, rfl, rfl, rfl⟩ := hrel
        by_cases hlt2 : i < pn
        · obtain ⟨y, hy⟩ := HGp.out i hlt2
          obtain ⟨g1, o1, rfl⟩ := HPp.out (by omega)
          have c2 := rg_U HRa2.out hy
          have HNy := hid (all_next hy (mem q))
          have hI := HIq.out y wr HRb.out
          clear hy
          cases hm : mem q y with
          | true =>
            rw [hm] at hI
            rw [hm, Bool.and_true] at HNy
            go_wp2_with fail
            refine hI.mono ?_
            rintro e w3 ⟨rfl, rfl⟩
            clear hI
            go_wp2_with fail
            go_roundw
            case rel => exact ⟨i + 1, by omega, by go_num, by rw [HNy.out], by simp⟩
            case measure => simp [intOf]; omega
          | false =>
            rw [hm] at hI
            rw [hm, Bool.and_false] at HNy
            go_wp2_with fail
            refine hI.mono ?_
            rintro e w3 ⟨rfl, rfl⟩
            clear hI
            go_wp2_with fail
            go_roundw
            case rel => exact ⟨i + 1, by omega, by go_num, by rw [HNy.out, Bool.and_false], by simp⟩
            case measure => simp [intOf]; omega
        · have he2 : i = pn := by omega
          subst he2
          rw [HTp.out, ← HEq.out, ← HSm.out]
          cases hs : sameO p q with
          | true =>
            rw [hs, if_pos rfl, List.append_nil] at HNx
            go_wp2_with fail
            go_roundw
            case rel => exact ⟨k + 1, by omega, by go_num, hid (by rw [HNx.out]; exact HO2.out), HNn, HK2⟩
            case measure => simp [intOf]; omega
          | false =>
            rw [hs, if_neg (by simp)] at HNx
            have c3 := rg_K (rg_kept encK_ok HR.out HK2.out) HX.out
            have HKa := hid (kept_alloc HK2.out (.cells #[.string x] 9))
            have HOx := hid (og_stays HO2.out (kept_alloc (kept_refl wr) (.cells #[.string x] 9)))
            have HAl := hid (rg_alone encK_ok (y := x) (at_new wr #[.string x] 9))
            have HBw : Hid (B0 ≤ (wr.alloc (.cells #[.string x] 9)).heap.size) := hid (by have := HKa.out.2; have := HB0.out; omega)
            go_wp2_with (at_builtin; go_must (refine wpList_gapp rfl (.tmp 51) (.tmp 56) rfl encK_ok tyK (by decide) B0 _ _ _ _ rfl HOx.out rfl HAl.out (by have := HLt.out k; simp; omega) HBw.out ?_; intro v3 w3 hown3 hgrow3 hnil3))
            have HO3 : Hid (Og encK 1 9 w3 B0 v3 (moved (l.take (k + 1)) a b)) := hid (by rw [HNx.out]; exact hown3)
            have HK3 := hid (kept_gr HKa.out hgrow3 (fun j hj => by have := og_lt HOx.out hj; have := HB0.out; omega))
            go_roundw
            case rel => exact ⟨k + 1, by omega, by go_num, HO3, hid (hnil3 HNn.out), HK3⟩
            case measure => simp [intOf]; omega
    · have he : k = n := by omega
      subst he
      rw [HT.out] at HO
      go_wp2_with fail
      go_ret
      exact HEnd.out _ _ HO.out HNn.out HKr.out
/- A call that answers yes or no, and what holds then. -/
def Lets (P : Bool → Prop) (w : World) (e : Ending) (w' : World) : Prop := ∃ b, e = .returned (.bool b) ∧ P b ∧ w' = w
theorem at_cells1 {w : World} {X T : Nat} {a0 : Value} (h : At w X #[a0] T) : w.cell? ⟨X, 0, none⟩ = some a0 := at_cell h 0
theorem at_cells2 {w : World} {X T : Nat} {a0 a1 : Value} (h : At w X #[a0, a1] T) : w.cell? ⟨X, 0, none⟩ = some a0 ∧ w.cell? ⟨X, 1, none⟩ = some a1 := ⟨at_cell h 0, at_cell h 1⟩
set_option maxHeartbeats 1600000 in
theorem great1 (key : ByteArray) (a : Option Addr) (n cap X T : Nat) (w : World) (h : At w X #[.slice a n cap] T) : Calls Try.prog 9 #[.string key, .slice (some ⟨X, 0, none⟩) 1 1] w (Lets (fun b => b = false → key.size ≤ 1000 ∧ n ≤ 200) w) := by
  have c0 := at_cells1 h
  clear h
  by_cases h1 : (1000 : Int) < (key.size : Int)
  · go_enter Try.func9, Try.ntmps9
    go_wp2
    go_ret
    exact ⟨true, rfl, fun e => (by cases e), rfl⟩
  · by_cases h2 : (200 : Int) < (n : Int)
    · go_enter Try.func9, Try.ntmps9
      go_wp2
      go_rounds 1
      go_ret
      exact ⟨true, rfl, fun e => (by cases e), rfl⟩
    · have HE : Hid (key.size ≤ 1000 ∧ n ≤ 200) := hid ⟨by omega, by omega⟩
      go_enter Try.func9, Try.ntmps9
      go_wp2
      go_rounds 2
      go_ret
      exact ⟨false, rfl, fun _ => HE.out, rfl⟩
set_option maxHeartbeats 1600000 in
theorem great2 (key : ByteArray) (a b : Option Addr) (n cap m cup X T : Nat) (w : World) (h : At w X #[.slice a n cap, .slice b m cup] T) : Calls Try.prog 9 #[.string key, .slice (some ⟨X, 0, none⟩) 2 2] w (Lets (fun b => b = false → key.size ≤ 1000 ∧ n ≤ 200 ∧ m ≤ 200) w) := by
  obtain ⟨c0, c1⟩ := at_cells2 h
  clear h
  by_cases h1 : (1000 : Int) < (key.size : Int)
  · go_enter Try.func9, Try.ntmps9
    go_wp2
    go_ret
    exact ⟨true, rfl, fun e => (by cases e), rfl⟩
  · by_cases h2 : (200 : Int) < (n : Int)
    · go_enter Try.func9, Try.ntmps9
      go_wp2
      go_rounds 1
      go_ret
      exact ⟨true, rfl, fun e => (by cases e), rfl⟩
    · by_cases h3 : (200 : Int) < (m : Int)
      · go_enter Try.func9, Try.ntmps9
        go_wp2
        go_rounds 2
        go_ret
        exact ⟨true, rfl, fun e => (by cases e), rfl⟩
      · have HE : Hid (key.size ≤ 1000 ∧ n ≤ 200 ∧ m ≤ 200) := hid ⟨by omega, by omega, by omega⟩
        go_enter Try.func9, Try.ntmps9
        go_wp2
        go_rounds 3
        go_ret
        exact ⟨false, rfl, fun _ => HE.out, rfl⟩
end Go.Proofs.Ytfdnfnnagchjcaa
