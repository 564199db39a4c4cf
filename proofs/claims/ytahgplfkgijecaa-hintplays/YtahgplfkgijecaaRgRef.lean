/- The contracts of the reference's best, Owners and Owns. Keys have at most 1000 bytes, rows at most 4096 members. -/
import Derived.Test.YtahgplfkgijecaaRgRows
import Derived.Deep.DeepMust
import Derived.Deep.Upon
namespace Go.Proofs.Ytahgplfkgijecaa
open Go.ChangeShapes Go.WideShapes Go.ChangeAt Go.RowKit
set_option linter.unusedVariables false
set_option linter.unusedSimpArgs false
set_option maxRecDepth 100000

/- Nobody is told as 255. -/
def code : Option Int → Int
  | none => 255
  | some a => a
theorem bst_next (W : Int → Int) (p : Int → Bool) (k : Nat) : bst W p (k + 1) = (match bst W p k with | none => if p (k : Int) then some (k : Int) else none | some b => if p (k : Int) && decide (W b < W (k : Int)) then some (k : Int) else some b) := rfl
theorem code_in {W : Int → Int} {p : Int → Bool} {k : Nat} (hk : k ≤ 64) (a : Int) (h : bst W p k = some a) : 0 ≤ a ∧ a < 64 := by
  have := bst_some h
  exact ⟨this.lo, by have := this.hi; omega⟩
theorem u8_wrap (x : Int) (h1 : 0 ≤ x) (h2 : x < 256) : IntKind.u8.wrap x = x := by rw [IntKind.wrap_u8]; omega
set_option maxHeartbeats 3200000 in
theorem best_any (key : ByteArray) (hk : key.size ≤ 1000) (l : List Int) (hn : l.length ≤ 4096) (but : Int) (v : Value) (w : World) (h : Rg encU 1 w v l) : Calls Try.prog 43 #[.string key, v, .int .u8 but] w fun e w' => e = .returned (.int .u8 (code (bst (wt key) (wo (mem l) but) 64))) ∧ w' = w := by
  have HIn := hid (fun x => in_any l hn v x w h)
  have HWt := hid (fun n h1 h2 => rweight_any key (by unfold maxLen; omega) n h1 h2 w)
  have HNx := hid (bst_next (wt key) (wo (mem l) but))
  have HCi := hid (fun k hk a h => @code_in (wt key) (wo (mem l) but) k hk a h)
  clear h hn hk
  go_enter Try.func43, Try.ntmps43
  go_wp2_with fail
  go_loopw [7, 8] (fun o j wr => ∃ k : Nat, k ≤ 64 ∧ j = .int .i64 (k : Int) ∧ o = .int .u8 (code (bst (wt key) (wo (mem l) but) k)) ∧ wr = w) (fun _ j _ => 64 - (intOf j).toNat)
  case atStart => exact ⟨0, Nat.zero_le _, rfl, rfl, rfl⟩
  case round =>
    obtain ⟨k, hk, rfl, rfl, rfl⟩ := hrel
    by_cases hlt : k < 64
    · have hkI : (k : Int) < 64 := by omega
      have hw1 := u8_wrap (k : Int) (by omega) (by omega)
      by_cases eb : (k : Int) = but
      · have hb : ((k : Int) == but) = true := by simpa using eb
        have HR : Hid (bst (wt key) (wo (mem l) but) (k + 1) = bst (wt key) (wo (mem l) but) k) := hid (by
          have : wo (mem l) but (k : Int) = false := by unfold wo; simp [eb]
          rw [HNx.out k, this]
          cases bst (wt key) (wo (mem l) but) k <;> simp)
        clear eb
        go_wp2_with fail
        go_roundw
        case rel => exact ⟨k + 1, by omega, by go_num, by rw [HR.out], by simp⟩
        case measure => simp [intOf]; omega
      · have hb : ((k : Int) == but) = false := by simpa using eb
        cases hm : mem l (k : Int) with
        | false =>
          have HR : Hid (bst (wt key) (wo (mem l) but) (k + 1) = bst (wt key) (wo (mem l) but) k) := hid (by
            have : wo (mem l) but (k : Int) = false := by unfold wo; rw [hm]; rfl
            rw [HNx.out k, this]
            cases bst (wt key) (wo (mem l) but) k <;> simp)
          have hIn := HIn.out (k : Int)
          rw [hm] at hIn
          clear eb hm
          go_wp2_with fail
          refine hIn.mono ?_
          rintro e w' ⟨rfl, rfl⟩
          clear hIn
          go_wp2_with fail
          go_roundw
          case rel => exact ⟨k + 1, by omega, by go_num, by rw [HR.out], by simp⟩
          case measure => simp [intOf]; omega
        | true =>
          have HPt : Hid (wo (mem l) but (k : Int) = true) := hid (wo_true.2 ⟨hm, eb⟩)
          have hIn := HIn.out (k : Int)
          rw [hm] at hIn
          clear eb hm
          cases hq : bst (wt key) (wo (mem l) but) k with
          | none =>
            have HR : Hid (bst (wt key) (wo (mem l) but) (k + 1) = some (k : Int)) := hid (by rw [HNx.out k, hq]; simp [HPt.out])
            have e5 : code none = 255 := rfl
            clear hq
            go_wp2_with fail
            refine hIn.mono ?_
            rintro e w' ⟨rfl, rfl⟩
            clear hIn
            go_wp2_with fail
            go_roundw
            case rel => exact ⟨k + 1, by omega, by go_num, by rw [HR.out]; rfl, by simp⟩
            case measure => simp [intOf]; omega
          | some b =>
            obtain ⟨b1, b2⟩ := HCi.out k hk b hq
            have e5 : code (some b) = b := rfl
            have hne : (b == 255) = false := by
              have : b ≠ 255 := by omega
              simpa using this
            have hWk := HWt.out (k : Int) (by omega) (by omega)
            have hWb := HWt.out b b1 (by omega)
            by_cases hgt : wt key b < wt key (k : Int)
            · have HR : Hid (bst (wt key) (wo (mem l) but) (k + 1) = some (k : Int)) := hid (by rw [HNx.out k, hq]; simp [HPt.out, hgt])
              have hd : decide (wt key b < wt key (k : Int)) = true := by simpa using hgt
              rw [e5]
              clear hq b1 b2 hgt e5
              generalize wt key (k : Int) = wk at *
              generalize wt key b = wb at *
              go_wp2_with fail
              refine hIn.mono ?_
              rintro e w' ⟨rfl, rfl⟩
              clear hIn
              go_wp2_with fail
              refine hWk.mono ?_
              rintro e w' ⟨rfl, rfl⟩
              go_wp2_with fail
              refine hWb.mono ?_
              rintro e w' ⟨rfl, rfl⟩
              clear hWk hWb
              go_wp2_with fail
              go_roundw
              case rel => exact ⟨k + 1, by omega, by go_num, by rw [HR.out]; rfl, by simp⟩
              case measure => simp [intOf]; omega
            · have HR : Hid (bst (wt key) (wo (mem l) but) (k + 1) = some b) := hid (by rw [HNx.out k, hq]; simp [hgt])
              have hd : decide (wt key b < wt key (k : Int)) = false := by simpa using hgt
              rw [e5]
              clear hq b1 b2 hgt e5
              generalize wt key (k : Int) = wk at *
              generalize wt key b = wb at *
              go_wp2_with fail
              refine hIn.mono ?_
              rintro e w' ⟨rfl, rfl⟩
              clear hIn
              go_wp2_with fail
              refine hWk.mono ?_
              rintro e w' ⟨rfl, rfl⟩
              go_wp2_with fail
              refine hWb.mono ?_
              rintro e w' ⟨rfl, rfl⟩
              clear hWk hWb
              go_wp2_with fail
              go_roundw
              case rel => exact ⟨k + 1, by omega, by go_num, by rw [HR.out]; rfl, by simp⟩
              case measure => simp [intOf]; omega
    · have he : k = 64 := by omega
      subst he
      rw [show ((64 : Nat) : Int) = 64 from rfl]
      go_wp2_with fail
      go_ret
      exact ⟨rfl, by simp⟩
theorem builtU (w : World) : Og encU 1 5 (w.alloc (.cells #[] 5)) w.heap.size (.slice (some ⟨w.heap.size, 0, none⟩) 0 0) [] := og_built encU_ok 5 w _ (Nat.le_refl _) [] (by decide)
theorem bst_255 (W : Int → Int) (p : Int → Bool) : bst W (wo p 255) 64 = bst W p 64 := bst_ext (fun n h1 h2 => by
  unfold wo
  have : n ≠ 255 := by
    intro e
    subst e
    exact absurd h2 (by decide)
  simp [this])
set_option maxHeartbeats 3200000 in
theorem rowners_any (key : ByteArray) (hk : key.size ≤ 1000) (l : List Int) (hn : l.length ≤ 4096) (v : Value) (w : World) (h : Rg encU 1 w v l) : Calls Try.prog 25 #[.string key, v] w (GRowN encU 1 5 (owners key l) w) := by
  have HR := hid h
  have HO0 := hid (builtU w)
  have HK0 := hid (kept_alloc (kept_refl w) (.cells #[] 5))
  have hB := best_any key hk l hn 255 v (w.alloc (.cells #[] 5)) (rg_kept encU_ok HR.out HK0.out)
  rw [bst_255] at hB
  have HBst := hid (fun but u hu => best_any key hk l hn but v u hu)
  rcases own_cases (wt key) (mem l) with ⟨eo, g⟩ | ⟨a, eo, g1, g2⟩ | ⟨a, b, eo, g1, g2⟩
  · rw [g] at hB
    have e5 : code none = 255 := rfl
    have HE : Hid (owners key l = []) := hid eo
    clear h hn hk eo g
    go_enter Try.func25, Try.ntmps25
    go_wp2_with fail
    refine hB.mono ?_
    rintro e w1 ⟨rfl, rfl⟩
    clear hB
    go_wp2_with fail
    go_ret
    exact ⟨_, rfl, by rw [HE.out]; exact HO0.out, by simp, HK0.out⟩
  · rw [g1] at hB
    have e5 : code (some a) = a := rfl
    rw [e5] at hB
    have t1 := bst_some g1
    have hne : (a == 255) = false := by
      have h1 := t1.hi
      have : a ≠ 255 := by intro e; subst e; exact absurd h1 (by decide)
      simpa using this
    have HE : Hid (owners key l = [a]) := hid eo
    have HG2 := hid g2
    have e6 : code none = 255 := rfl
    have HK1 := hid (kept_alloc HK0.out (.cells #[.int .u8 a] 5))
    have HO1 := hid (og_stays HO0.out (kept_alloc (kept_refl _) (.cells #[.int .u8 a] 5)))
    have HAl := hid (rg_alone encU_ok (y := a) (at_new (w.alloc (.cells #[] 5)) #[.int .u8 a] 5))
    have HBw : Hid (w.heap.size ≤ ((w.alloc (.cells #[] 5)).alloc (.cells #[.int .u8 a] 5)).heap.size) := hid HK1.out.2
    simp only [World.size_alloc] at HAl
    clear h hn hk eo g1 g2 t1 e5
    go_enter Try.func25, Try.ntmps25
    go_wp2_with fail
    refine hB.mono ?_
    rintro e w1 ⟨rfl, rfl⟩
    clear hB
    go_wp2_with (at_builtin; go_must (refine wpList_gapp rfl (.tmp 15) (.tmp 17) rfl encU_ok tyU (by decide) w.heap.size _ _ _ _ rfl HO1.out rfl HAl.out (by simp) HBw.out ?_; intro v3 w3 hown3 hgrow3 hnil3))
    have HO3 := hid hown3
    have HK3 := hid (kept_gr HK1.out hgrow3 (fun j hj => og_lt HO1.out hj))
    have HN3 := hid (hnil3 (by show (Value.slice (some ⟨w.heap.size, 0, none⟩) 0 0) ≠ Value.slice none 0 0; simp))
    have hB2 := HBst.out a w3 (rg_kept encU_ok HR.out HK3.out)
    rw [HG2.out] at hB2
    clear hown3 hgrow3 hnil3
    refine hB2.mono ?_
    rintro e w4 ⟨rfl, rfl⟩
    clear hB2
    go_wp2_with fail
    go_ret
    exact ⟨_, rfl, by rw [HE.out]; exact HO3.out, HN3.out, HK3.out⟩
  · rw [g1] at hB
    have e5 : code (some a) = a := rfl
    rw [e5] at hB
    have t1 := bst_some g1
    have t2 := bst_some g2
    have hne : (a == 255) = false := by
      have h1 := t1.hi
      have : a ≠ 255 := by intro e; subst e; exact absurd h1 (by decide)
      simpa using this
    have hne2 : (b != 255) = true := by
      have h1 := t2.hi
      have : b ≠ 255 := by intro e; subst e; exact absurd h1 (by decide)
      simpa using this
    have HE : Hid (owners key l = [a, b]) := hid eo
    have HG2 := hid g2
    have HK1 := hid (kept_alloc HK0.out (.cells #[.int .u8 a] 5))
    have HO1 := hid (og_stays HO0.out (kept_alloc (kept_refl _) (.cells #[.int .u8 a] 5)))
    have HAl := hid (rg_alone encU_ok (y := a) (at_new (w.alloc (.cells #[] 5)) #[.int .u8 a] 5))
    have HBw : Hid (w.heap.size ≤ ((w.alloc (.cells #[] 5)).alloc (.cells #[.int .u8 a] 5)).heap.size) := hid HK1.out.2
    simp only [World.size_alloc] at HAl
    clear h hn hk eo g1 g2 t1 t2 e5
    go_enter Try.func25, Try.ntmps25
    go_wp2_with fail
    refine hB.mono ?_
    rintro e w1 ⟨rfl, rfl⟩
    clear hB
    go_wp2_with (at_builtin; go_must (refine wpList_gapp rfl (.tmp 15) (.tmp 17) rfl encU_ok tyU (by decide) w.heap.size _ _ _ _ rfl HO1.out rfl HAl.out (by simp) HBw.out ?_; intro v3 w3 hown3 hgrow3 hnil3))
    have HO3 := hid hown3
    have HK3 := hid (kept_gr HK1.out hgrow3 (fun j hj => og_lt HO1.out hj))
    have HN3 := hid (hnil3 (by show (Value.slice (some ⟨w.heap.size, 0, none⟩) 0 0) ≠ Value.slice none 0 0; simp))
    have hB2 := HBst.out a w3 (rg_kept encU_ok HR.out HK3.out)
    rw [HG2.out] at hB2
    have e6 : code (some b) = b := rfl
    rw [e6] at hB2
    clear hown3 hgrow3 hnil3 e6
    refine hB2.mono ?_
    rintro e w4 ⟨rfl, rfl⟩
    clear hB2
    have HK4 := hid (kept_alloc HK3.out (.cells #[.int .u8 b] 5))
    have HO4 := hid (og_stays HO3.out (kept_alloc (kept_refl _) (.cells #[.int .u8 b] 5)))
    have HAl4 := hid (rg_alone encU_ok (y := b) (at_new w4 #[.int .u8 b] 5))
    have HBw4 : Hid (w.heap.size ≤ (w4.alloc (.cells #[.int .u8 b] 5)).heap.size) := hid HK4.out.2
    go_wp2_with (at_builtin; go_must (refine wpList_gapp rfl (.tmp 25) (.tmp 27) rfl encU_ok tyU (by decide) w.heap.size _ _ _ _ rfl HO4.out rfl HAl4.out (by simp) HBw4.out ?_; intro v5 w5 hown5 hgrow5 hnil5))
    have HO5 := hid hown5
    have HK5 := hid (kept_gr HK4.out hgrow5 (fun j hj => og_lt HO4.out hj))
    have HN5 := hid (hnil5 HN3.out)
    clear hown5 hgrow5 hnil5
    go_ret
    exact ⟨_, rfl, by rw [HE.out]; exact HO5.out, HN5.out, HK5.out⟩
theorem rowns_any (key : ByteArray) (hk : key.size ≤ 1000) (l : List Int) (hn : l.length ≤ 4096) (x : Int) (v : Value) (w : World) (h : Rg encU 1 w v l) : Calls Try.prog 26 #[.string key, v, .int .u8 x] w fun e w' => e = .returned (.bool (mem (owners key l) x)) ∧ Kept w w' := by
  have HO := hid (rowners_any key hk l hn v w h)
  have HL := hid (owners_len key l)
  clear h hk hn
  go_enter Try.func26, Try.ntmps26
  go_wp2_with fail
  refine HO.out.mono ?_
  rintro e w1 ⟨v1, rfl, o1, -, k1⟩
  have HK1 := hid k1
  have hI := in_any (owners key l) (by have := HL.out; omega) v1 x w1 (rg_own encU_ok o1)
  clear o1 k1 HO
  go_wp2_with fail
  refine hI.mono ?_
  rintro e w2 ⟨rfl, rfl⟩
  clear hI
  go_wp2_with fail
  go_ret
  exact ⟨rfl, HK1.out⟩
end Go.Proofs.Ytahgplfkgijecaa
