/- The contract of the landed New. At most 100 nodes. -/
import Derived.Test.YtjmldnbepajnoaaRAkCode2
namespace Go.Proofs.YtjmldnbepajnoaaR
open Go.ChangeShapes Go.WideShapes Go.ChangeAt Go.RowKit
set_option linter.unusedVariables false
set_option linter.unusedSimpArgs false
set_option maxRecDepth 100000

/- 256 truths as cells. -/
def bw (p : Nat → Bool) : Array Value := (Array.range 256).map (fun (k : Nat) => Value.bool (p k))
theorem bw_size (p : Nat → Bool) : (bw p).size = 256 := by simp [bw]
theorem bw_get (p : Nat → Bool) {k : Nat} (h : k < 256) : (bw p)[k]? = some (.bool (p k)) := by
  unfold bw
  rw [Array.getElem?_map, Array.getElem?_range, if_pos h]
  rfl
theorem bw_eq {cs : Array Value} {p : Nat → Bool} (hs : cs.size = 256) (h : ∀ k, k < 256 → cs[k]? = some (.bool (p k))) : cs = bw p := by
  apply Array.ext (by rw [hs, bw_size])
  intro i h1 h2
  have e1 := h i (by omega)
  have e2 := bw_get p (k := i) (by omega)
  rw [← e2, Array.getElem?_eq_getElem h1, Array.getElem?_eq_getElem h2] at e1
  exact Option.some.inj e1
theorem bw_set (p : Nat → Bool) (a : Nat) (h : a < 256) : (bw p).setIfInBounds a (.bool true) = bw (upN p a true) := bw_eq (by simp [bw_size]) (fun k hk => by
  rw [Array.getElem?_setIfInBounds]
  by_cases e : a = k
  · subst e
    rw [if_pos rfl, if_pos (by rw [bw_size]; exact h)]
    simp [upN]
  · rw [if_neg e, bw_get p hk]
    have : ¬ (k = a) := fun q => e q.symm
    simp [upN, this])
def inN (l : List Int) (k : Nat) : Bool := inL l (k : Int)
theorem bw_no : bw (fun _ => false) = bw (inN []) := rfl
theorem bw_more (l : List Int) (y : Nat) : upN (inN l) y true = inN (l ++ [(y : Int)]) := by
  funext k
  unfold upN inN
  by_cases e : k = y
  · rw [if_pos e, e]
    exact (inL_iff.2 (by simp)).symm
  · rw [if_neg e, Bool.eq_iff_iff, inL_iff, inL_iff]
    simp
    omega
theorem bw_same {l : List Int} {y : Nat} (h : inN l y = true) : inN l = inN (l ++ [(y : Int)]) := by
  rw [← bw_more]
  funext k
  unfold upN
  by_cases e : k = y
  · rw [if_pos e, e]; exact h
  · rw [if_neg e]
def newM (l : List Int) : List Ad := (onceL l).map (fun n => ⟨n, false, zeroRp⟩)
theorem newM_is (l : List Int) (u : Int) : memL (newQ l u) = newM l := by
  unfold memL newM
  refine List.map_congr_left (fun n hn => ?_)
  rfl
theorem once_in {l : List Int} {n : Int} : inL (onceL l) n = inL l n := by rw [Bool.eq_iff_iff, inL_iff, inL_iff, once_mem]
theorem newM_yes {l : List Int} {n : Int} (h : inL l n = true) : newM (l ++ [n]) = newM l := by
  unfold newM
  rw [once_next]
  unfold addO
  rw [once_in, h, if_pos rfl]
theorem newM_no {l : List Int} {n : Int} (h : inL l n = false) : newM (l ++ [n]) = newM l ++ [⟨n, false, zeroRp⟩] := by
  unfold newM
  rw [once_next]
  unfold addO
  rw [once_in, h, if_neg (by simp), List.map_append]
  rfl
theorem newM_len (l : List Int) : (newM l).length ≤ l.length := by unfold newM; rw [List.length_map]; exact once_len l
theorem zeroT (w : World) : (zeroValue 52).run Try.prog w = .ok (.agg (bw (fun _ => false))) w := by kernel_rfl
set_option maxHeartbeats 3200000 in
theorem new_is (l : List Int) (u : Int) (v : Value) (w : World) (hu : U8 l) (hm : l.length ≤ 100) (h : Rg encU 1 w v l) : Calls Try.prog 8 #[v, .int .u64 u] w fun e w' => ∃ X F, e = .returned (.pointer (some ⟨X, 0, none⟩)) ∧ AO w' X (newQ l u) F ∧ Kept w w' ∧ ∀ b, F b → w.heap.size ≤ b := by
  have HR := hid h
  have HU := hid hu
  obtain ⟨a, cap, rfl, hc1, hc2, -, -⟩ := h
  have HG : Hid (∀ k, k < l.length → ∃ y, l[k]? = some y) := hid (fun k hk => ⟨l[k], List.getElem?_eq_getElem hk⟩)
  have HP : Hid (0 < l.length → ∃ g o, a = some ⟨g, o, none⟩) := hid (fun hp => by
    obtain ⟨g, o, c, e⟩ := rg_pos HR.out hp
    injection e with e1
    exact ⟨g, o, e1⟩)
  have HT : Hid (l.take l.length = l) := hid List.take_length
  have HLn : Hid (∀ k, (newM (l.take k)).length ≤ 100) := hid (fun k => Nat.le_trans (newM_len _) (by rw [List.length_take]; omega))
  have hz := zeroT
  have hza := zeroAv
  obtain ⟨X, hX⟩ : ∃ X, w.heap.size = X := ⟨_, rfl⟩
  obtain ⟨w1, hw1⟩ : ∃ w1, w.alloc (.cells #[.int .u64 u, .slice none 0 0] 51) = w1 := ⟨_, rfl⟩
  have a1 := at_new w #[.int .u64 u, .slice none 0 0] 51
  have k1 := kept_alloc (kept_refl w) (.cells #[.int .u64 u, .slice none 0 0] 51)
  have s1 : w1.heap.size = X + 1 := by rw [← hw1, ← hX]; simp
  rw [hw1] at a1 k1
  rw [hX] at a1
  obtain ⟨Z, hZ⟩ : ∃ Z, w1.heap.size = Z := ⟨_, rfl⟩
  obtain ⟨w2, hw2⟩ : ∃ w2, w1.alloc (.cells (bw (fun _ => false)) 52) = w2 := ⟨_, rfl⟩
  have a2 := at_new w1 (bw (fun _ => false)) 52
  have k2 := kept_alloc (kept_refl w1) (.cells (bw (fun _ => false)) 52)
  rw [hw2] at a2 k2
  rw [hZ] at a2
  have HA1 := hid (at_kept a1 k2)
  have HA2 : Hid (At w2 Z (bw (inN [])) 52) := hid (by rw [← bw_no]; exact a2)
  have HK2 := hid (kept_trans k1 k2)
  have HNE : Hid (X ≠ Z ∧ w.heap.size ≤ X ∧ w.heap.size ≤ Z) := hid ⟨by omega, by omega, by omega⟩
  clear a1 k1 s1 a2 k2 hu
  generalize hmm : l.length = m at *
  clear hmm
  unfold maxLen at hc2
  go_enter Try.func8, Try.ntmps8
  go_wp2_with fail
  clear hz hw1 hw2 hX hZ
  go_loopw [14] (fun j wr => ∃ (k : Nat) (va : Option Addr) (vc : Nat), k ≤ m ∧ j = .int .i64 (k : Int) ∧ Hid (At wr Z (bw (inN (l.take k))) 52) ∧ Hid (At wr X #[.int .u64 u, .slice va (newM (l.take k)).length vc] 51) ∧ Hid (Og encA 12 54 wr w.heap.size (.slice va (newM (l.take k)).length vc) (newM (l.take k))) ∧ Hid (Kept w wr)) (fun j _ => m - (intOf j).toNat)
  case atStart => exact ⟨0, none, 0, Nat.zero_le _, rfl, HA2, HA1, hid (og_nil _ _ _ _ _), HK2⟩
  case round =>
    obtain ⟨k, va, vc, hk, rfl, HZ, HX, HO, HK⟩ := hrel
    clear HA2 HA1 HK2
    by_cases hlt : k < m
    · obtain ⟨y, hy⟩ := HG.out k hlt
      obtain ⟨g, o, rfl⟩ := HP.out (by omega)
      have c0 := rg_U (rg_kept encU_ok HR.out HK.out) hy
      have HNx := hid (take_next hy)
      obtain ⟨y0, y1⟩ := HU.out y (List.mem_of_getElem? hy)
      obtain ⟨y, rfl⟩ := Int.eq_ofNat_of_zero_le y0
      have e : y < 256 := by omega
      have hltz : (k : Int) < (m : Int) := by omega
      clear hy y0
      have b1 : (y : Int) < 256 := by omega
      have b2 : ¬ (256 : Int) ≤ (y : Int) := by omega
      have c1 : wr.cell? ⟨Z, y, none⟩ = some (.bool (inN (l.take k) y)) := (at_cell HZ.out y).trans (bw_get _ e)
      have HLk := hid (HLn.out k)
      cases hb : inN (l.take k) y with
      | true =>
        rw [hb] at c1
        have HZ3 : Hid (At wr Z (bw (inN (l.take (k + 1)))) 52) := hid (by rw [HNx.out, ← bw_same hb]; exact HZ.out)
        have HE : Hid (newM (l.take (k + 1)) = newM (l.take k)) := hid (by rw [HNx.out]; exact newM_yes hb)
        clear hb HZ
        go_wp2_with fail
        go_roundw
        case rel => exact ⟨k + 1, va, vc, by omega, by go_num, HZ3, by rw [HE.out]; exact HX, by rw [HE.out]; exact HO, HK⟩
        case measure => simp [intOf]; omega
      | false =>
        rw [hb] at c1
        have HE : Hid (newM (l.take (k + 1)) = newM (l.take k) ++ [⟨(y : Int), false, zeroRp⟩]) := hid (by rw [HNx.out]; exact newM_no hb)
        have cf : ∀ j, wr.frozen? ⟨Z, j, none⟩ = false := at_frozen HZ.out
        have hZ3 := at_set HZ.out y (.bool true)
        rw [bw_set _ y e, bw_more, ← HNx.out] at hZ3
        have hX3 := at_other HX.out HNE.out.1 y (.bool true)
        have hK3 := kept_set HK.out HNE.out.2.2 y (.bool true)
        have hO3 : Og encA 12 54 (wr.setCell ⟨Z, y, none⟩ (.bool true)) w.heap.size (.slice va (newM (l.take k)).length vc) (newM (l.take k)) := og_block HO.out (fun q cur hq ha => Below.heap_setCell _ _ _ _ (by
          show q ≠ Z
          exact at_ne ha HZ.out (by decide)))
        obtain ⟨w3, hw3⟩ : ∃ w3, wr.setCell ⟨Z, y, none⟩ (.bool true) = w3 := ⟨_, rfl⟩
        rw [hw3] at hZ3 hX3 hK3 hO3
        have ka := kept_alloc (kept_refl w3) (.cells #[.int .u8 (y : Int), .bool false, .bool false, .bool false, .string ⟨#[]⟩, .int .u64 0, .int .u32 0, .int .u8 0, .int .u8 0, .int .u32 0, .int .u64 0, .string ⟨#[]⟩] 54)
        have HAl := hid (rg_alone encA_ok (y := (⟨(y : Int), false, zeroRp⟩ : Ad)) (at_new w3 #[.int .u8 (y : Int), .bool false, .bool false, .bool false, .string ⟨#[]⟩, .int .u64 0, .int .u32 0, .int .u8 0, .int .u8 0, .int .u32 0, .int .u64 0, .string ⟨#[]⟩] 54))
        have HZa := hid (at_kept hZ3 ka)
        have HXa := hid (at_kept hX3 ka)
        have HOa := hid (og_stays hO3 ka)
        have HKa := hid (kept_trans hK3 ka)
        obtain ⟨x0, x1, -⟩ := at_cells2 hX3
        have HNa : Hid (X ≠ Z ∧ w.heap.size ≤ X ∧ w.heap.size ≤ Z) := HNE
        clear hb HZ HX HO HK hZ3 hX3 hK3 hO3 ka
        generalize hnl : (newM (l.take k)).length = nl at *
        have HNl := hid hnl
        clear hnl
        go_wp2_with (at_builtin; go_must (refine wpList_gapp rfl (.tmp 28) (.tmp 31) rfl encA_ok tyA (by decide) w.heap.size _ _ _ [⟨(y : Int), false, zeroRp⟩] rfl HOa.out rfl HAl.out (by rw [HNl.out]; have := HLk.out; simp; omega) HKa.out.2 ?_; intro v4 w4 hown4 hgrow4 hnil4; obtain ⟨va4, vc4, e4, -, -⟩ := og_is encA_ok hown4; obtain ⟨ln, hln⟩ : ∃ ln, (newM (l.take k) ++ [(⟨(y : Int), false, zeroRp⟩ : Ad)]).length = ln := ⟨_, rfl⟩; rw [hln] at e4; have HLN := hid hln; clear hln; subst e4; have hX4 := at_beside HXa.out HOa.out (by decide) hgrow4; have hZ4 := at_beside HZa.out HOa.out (by decide) hgrow4; obtain ⟨x2, x3, xf⟩ := at_cells2 hX4; have HK4 := hid (kept_set (kept_gr HKa.out hgrow4 (fun q hq => og_lt HOa.out hq)) HNa.out.2.1 1 (.slice va4 ln vc4)); have HX4 : Hid (At (w4.setCell ⟨X, 1, none⟩ (.slice va4 ln vc4)) X #[.int .u64 u, .slice va4 ln vc4] 51) := hid (at_set hX4 1 (.slice va4 ln vc4)); have HZ4 := hid (at_other hZ4 (fun q => HNa.out.1 q.symm) 1 (.slice va4 ln vc4)); have HO4 : Hid (Og encA 12 54 (w4.setCell ⟨X, 1, none⟩ (.slice va4 ln vc4)) w.heap.size (.slice va4 ln vc4) _) := hid (og_block hown4 (fun q cur hq ha => Below.heap_setCell _ _ _ _ (by show q ≠ X; exact at_ne ha hX4 (by decide)))); clear hown4 hgrow4 hnil4 hX4 hZ4))
        go_roundw
        case rel =>
          refine ⟨k + 1, va4, vc4, by omega, by go_num, HZ4, ?_, ?_, HK4⟩
          · rw [HE.out, HLN.out]; exact HX4
          · rw [HE.out, HLN.out]; exact HO4
        case measure => simp [intOf]; omega
    · have he : k = m := by omega
      subst he
      rw [HT.out] at HX HO
      go_wp2_with fail
      go_ret
      refine ⟨X, fun b => b = X ∨ (Value.slice va (newM l).length vc).ownBlock = some b, rfl, ⟨_, HX.out, ?_, fun b => Iff.rfl⟩, HK.out, fun b hb => ?_⟩
      · rw [newM_is]
        exact og_low HO.out (Nat.zero_le _)
      · rcases hb with rfl | hb
        · exact HNE.out.2.1
        · exact og_lt HO.out hb
end Go.Proofs.YtjmldnbepajnoaaR
