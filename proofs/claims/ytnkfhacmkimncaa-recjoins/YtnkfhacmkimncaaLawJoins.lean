/- The law that a join is the same in any order, walked: it answers true and turns nothing that was there. -/
import Derived.Test.YtnkfhacmkimncaaJoinMath
import Derived.Test.YtnkfhacmkimncaaFixed
import Derived.Test.YtnkfhacmkimncaaLawMay
import Derived.Test.YtnkfhacmkimncaaLawOrders
namespace Go.Proofs.Ytnkfhacmkimncaa
open Go.ChangeShapes Go.WideShapes Go.ChangeAt Go.RowKit
set_option linter.unusedVariables false
set_option linter.unusedSimpArgs false

set_option maxHeartbeats 1600000 in
set_option maxRecDepth 100000 in
theorem joins_fixed (key : ByteArray) (oa : Option Addr) (len cap : Nat) (turn : Int) (w : World) (h : (1000 : Int) < (key.size : Int) ∨ (¬ (1000 : Int) < (key.size : Int) ∧ (50 : Int) < (len : Int)) ∨ (¬ (1000 : Int) < (key.size : Int) ∧ ¬ (50 : Int) < (len : Int) ∧ len = 0)) :
    Calls Try.prog 6 #[.string key, .slice oa len cap, .int .u8 turn] w fun e w' => e = .returned (.bool true) ∧ Kept w w' := by
  rcases h with h1 | ⟨h1, h2⟩ | ⟨h1, h2, rfl⟩
  all_goals
    go_enter Try.func6, Try.ntmps6
    go_wp2_with fail
    refine (fixed_any _).mono ?_
    rintro e w1 ⟨rfl, k1⟩
    go_wp2_with fail
    go_ret
    exact ⟨rfl, k1⟩
theorem joins_sizes {O : Nat → R} {k : Nat} (h : ∀ j, j < k → (O j).key.size ≤ 140737488355328 ∧ (O j).body.size ≤ 140737488355328) {r : R} (hr : ∃ j, j < k ∧ r = O j) : r.key.size ≤ 140737488355328 ∧ r.body.size ≤ 140737488355328 := by
  obtain ⟨j, hj, rfl⟩ := hr
  exact h j hj
theorem mod_cast' (n k i m : Nat) (h : i ≤ n + k) (hm : m = (n + k - i) % k) : ((n : Int) + (k : Int) - (i : Int)) % (k : Int) = (m : Int) := by
  rw [hm, Int.natCast_emod, Int.ofNat_sub h, Int.natCast_add]
set_option maxHeartbeats 1600000 in
set_option maxRecDepth 100000 in
theorem joins_main (key : ByteArray) (len cap b o : Nat) (S : Nat → R) (turn : Int) (ht : 0 ≤ turn ∧ turn < 256) (w : World) (h1 : ¬ (1000 : Int) < (key.size : Int)) (h2 : ¬ (50 : Int) < (len : Int)) (h3 : 0 < len)
    (hR : Row w (some ⟨b, o, none⟩) len cap b o S) :
    Calls Try.prog 6 #[.string key, .slice (some ⟨b, o, none⟩) len cap, .int .u8 turn] w fun e w' => e = .returned (.bool true) ∧ Kept w w' := by
  have d1 : decide ((1000 : Int) < (key.size : Int)) = false := decide_eq_false h1
  have d2 : decide ((50 : Int) < (len : Int)) = false := decide_eq_false h2
  have d3 : ((len : Int) == 0) = false := by simp; omega
  have hl50 : len ≤ 50 := by omega
  have HKs : Hid (key.size ≤ 1000) := by show _ ≤ _; omega
  have HRow := hid hR
  have HL0 := hid h3
  obtain ⟨r1, r2, r3, r4, r5⟩ := hR
  have HB : Hid (b < w.heap.size) := (r4 h3).2
  have HS := hid r5
  clear h1 h2 r1 r2 r3 r4 r5 h3
  have hz := zero27
  have K0 : Hid (Kept w w) := kept_refl w
  have O0 : Hid (w.ownsRow w.heap.size 27 8 (.slice none 0 0) 0 (flat ((List.range 0).map fun j => { S j with key := key }))) := World.ownsRow_nil _ _ _ _
  obtain ⟨i0, hi, hz0, hz1, hz2⟩ := info_parts info27
  go_enter Try.func6, Try.ntmps6
  go_wp2_with fail
  go_loopw [7, 9, 32] (fun v _ jv wr => ∃ k : Nat, k ≤ len ∧ jv = .int .i64 k ∧ Hid (Kept w wr) ∧ Hid (wr.ownsRow w.heap.size 27 8 v k (flat ((List.range k).map fun j => { S j with key := key }))) ∧ Hid (∀ j, j < k → greatR (S j) = false)) (fun _ _ jv _ => len - (intOf jv).toNat)
  case atStart => exact ⟨0, Nat.zero_le _, rfl, K0, O0, fun j hj => absurd hj (by omega)⟩
  case round =>
    obtain ⟨k, hk, rfl, HK, HO, HG⟩ := hrel
    by_cases hlt : k < len
    · obtain ⟨ho, hc⟩ := HS.out k hlt
      have hcell := lies_kept hc HB.out HK.out
      have HSk := hid ho
      clear ho hc
      have HR' : Hid (flat ((List.range (k + 1)).map fun j => { S j with key := key }) = flat ((List.range k).map fun j => { S j with key := key }) ++ cellsL { S k with key := key }) := by
        show _ = _
        rw [List.range_succ, List.map_append, List.map_singleton, flat_snoc]
      have HGk : Hid (greatR (S k) = false → ∀ j, j < k + 1 → greatR (S j) = false) := fun h j hj => by
        rcases (show j < k ∨ j = k by omega) with h1 | rfl
        · exact HG.out j h1
        · exact h
      generalize S k = r at *
      obtain ⟨c0, c1, c2, c3, c4, c5, c6, c7⟩ := hcell
      have X1 := hid (at_alloc (at_new wr #[.string r.key, .int .u64 r.s.p, .int .u32 r.s.l, .int .u8 r.s.n, .int .u8 r.kind, .int .u32 r.flags, .int .u64 r.exp, .string r.body] 27) (.cells #[.string r.key, .int .u64 r.s.p, .int .u32 r.s.l, .int .u8 r.s.n, .int .u8 r.kind, .int .u32 r.flags, .int .u64 r.exp, .string r.body] 27))
      have Y1 := at_new (wr.alloc (.cells #[.string r.key, .int .u64 r.s.p, .int .u32 r.s.l, .int .u8 r.s.n, .int .u8 r.kind, .int .u32 r.flags, .int .u64 r.exp, .string r.body] 27)) #[.string r.key, .int .u64 r.s.p, .int .u32 r.s.l, .int .u8 r.s.n, .int .u8 r.kind, .int .u32 r.flags, .int .u64 r.exp, .string r.body] 27
      simp only [World.size_alloc] at Y1
      have Y2 := hid Y1
      clear Y1
      have K1 := hid (kept_alloc (kept_alloc HK.out (.cells #[.string r.key, .int .u64 r.s.p, .int .u32 r.s.l, .int .u8 r.s.n, .int .u8 r.kind, .int .u32 r.flags, .int .u64 r.exp, .string r.body] 27)) (.cells #[.string r.key, .int .u64 r.s.p, .int .u32 r.s.l, .int .u8 r.s.n, .int .u8 r.kind, .int .u32 r.flags, .int .u64 r.exp, .string r.body] 27))
      have O1 := hid ((HO.out.alloc (.cells #[.string r.key, .int .u64 r.s.p, .int .u32 r.s.l, .int .u8 r.s.n, .int .u8 r.kind, .int .u32 r.flags, .int .u64 r.exp, .string r.body] 27)).alloc (.cells #[.string r.key, .int .u64 r.s.p, .int .u32 r.s.l, .int .u8 r.s.n, .int .u8 r.kind, .int .u32 r.flags, .int .u64 r.exp, .string r.body] 27))
      have HNg : Hid (∀ g, u7.ownBlock = some g → g ≠ wr.heap.size) := fun g hg => Nat.ne_of_lt (HO.out.lt g hg).2
      have HKX : Hid (∀ (u : World) (v : Value), Kept w u → Kept w (u.setCell ⟨wr.heap.size, 0, none⟩ v)) := fun u v h => kept_set h HK.out.2 0 v
      go_wp2_with fail
      clear c0 c1 c2 c3 c4 c5 c6 c7
      generalize (wr.alloc (.cells #[.string r.key, .int .u64 r.s.p, .int .u32 r.s.l, .int .u8 r.s.n, .int .u8 r.kind, .int .u32 r.flags, .int .u64 r.exp, .string r.body] 27)).alloc (.cells #[.string r.key, .int .u64 r.s.p, .int .u32 r.s.l, .int .u8 r.s.n, .int .u8 r.kind, .int .u32 r.flags, .int .u64 r.exp, .string r.body] 27) = w1 at *
      generalize wr.heap.size = bX at *
      generalize bX + 1 = bG at *
      refine (great1 r bG _ Y2.out).mono ?_
      rintro e w2 ⟨rfl, k2⟩
      have X2 := at_kept X1.out k2
      have K2 := kept_trans K1.out k2
      have O2 := own_kept O1.out k2
      clear X1 Y2 K1 O1 k2 HK HO
      cases hg : greatR r with
      | true =>
        go_wp2_with fail
        refine (fixed_any _).mono ?_
        rintro e w3 ⟨rfl, k3⟩
        have K3 := kept_trans K2 k3
        go_wp2_with fail
        go_ret
        exact ⟨rfl, K3⟩
      | false =>
        have HG2 := hid (HGk.out hg)
        clear hg
        obtain ⟨c0, c1, c2, c3, c4, c5, c6, c7, cf⟩ := at_cells8 X2
        have X3 : At (w2.setCell ⟨bX, 0, none⟩ (.string key)) bX #[.string key, .int .u64 r.s.p, .int .u32 r.s.l, .int .u8 r.s.n, .int .u8 r.kind, .int .u32 r.flags, .int .u64 r.exp, .string r.body] 27 := at_set X2 0 (.string key)
        have K3 := HKX.out w2 (.string key) K2
        have O3 := own_other O2 HNg.out 0 (.string key)
        have K4 := hid (kept_alloc K3 (.cells #[.string key, .int .u64 r.s.p, .int .u32 r.s.l, .int .u8 r.s.n, .int .u8 r.kind, .int .u32 r.flags, .int .u64 r.exp, .string r.body] 27))
        have O4 := hid (O3.alloc (.cells #[.string key, .int .u64 r.s.p, .int .u32 r.s.l, .int .u8 r.s.n, .int .u8 r.kind, .int .u32 r.flags, .int .u64 r.exp, .string r.body] 27))
        have N4 := hid (rec_new (r := { r with key := key }) (at_new (w2.setCell ⟨bX, 0, none⟩ (.string key)) #[.string key, .int .u64 r.s.p, .int .u32 r.s.l, .int .u8 r.s.n, .int .u8 r.kind, .int .u32 r.flags, .int .u64 r.exp, .string r.body] 27))
        have hWs := hid K4.out.2
        have hsz : (w2.setCell ⟨bX, 0, none⟩ (.string key)).heap.size = w2.heap.size := by simp [World.setCell]
        rw [hsz] at N4
        clear X2 K2 O2 X3 K3 O3 hsz
        go_wp2_with (at_builtin; refine wpList_append_own _ rfl _ _ 38 rfl w.heap.size 27 i0 _ 8 64 Try.underlying38 hi hz0 hz1 hz2 rfl (by decide) _ k _ rfl O4.out ⟨w2.heap.size, 0, none⟩ 1 1 (cellsL { r with key := key }) rfl rfl N4.out (rec_one _) (by unfold maxLen; omega) (by omega) hWs.out ?_)
        intro v' w4 hown' hgrow _
        have K5 := hid (kept_grown' K4.out hgrow (fun k hk => (O4.out.lt k hk).1))
        have O5 : Hid (w4.ownsRow w.heap.size 27 8 v' (k + 1) (flat ((List.range (k + 1)).map fun j => { S j with key := key }))) := by
          show World.ownsRow _ _ _ _ _ _ _
          rw [HR'.out]
          exact hown'
        clear hown' hgrow K4 O4 N4 hWs c0 c1 c2 c3 c4 c5 c6 c7 cf
        go_wp2_with fail
        go_roundw
        case rel => exact ⟨k + 1, by omega, by go_num, K5, O5, HG2⟩
        case measure => simp [intOf]; omega
    · obtain rfl : k = len := by omega
      obtain ⟨g, cap', hv⟩ := own_form' HO.out HL0.out
      subst hv
      obtain ⟨O, hO⟩ : ∃ O : Nat → R, O = fun j => { S j with key := key } := ⟨_, rfl⟩
      have HO2 := HO.out
      rw [← hO] at HO2
      have HLi : Hid (∀ j, j < k → Lies wr g (j * 8) (O j)) := fun j hj => by
        have := own_lies HO2 j (by simpa using hj)
        simpa using this
      have HSz : Hid (∀ j, j < k → (O j).key.size ≤ 140737488355328 ∧ (O j).body.size ≤ 140737488355328) := fun j hj => by
        have h1 := not_great (HG.out j hj)
        have h2 := HKs.out
        rw [hO]
        exact ⟨by show key.size ≤ _; omega, h1.2⟩
      have HKey : Hid (∀ j, (O j).key = key) := fun j => by rw [hO]
      have Hgl : Hid (g < wr.heap.size) := (HO2.lt g rfl).2
      have Hgw : Hid (w.heap.size ≤ g) := (HO2.lt g rfl).1
      obtain ⟨wq, hwq⟩ : ∃ x, x = wr := ⟨_, rfl⟩
      subst hwq
      have hpos : 0 < k := HL0.out
      have hk0 : ¬ k = 0 := by omega
      obtain ⟨nn, hnn⟩ := nat_of (show 0 ≤ turn % (k : Int) from Int.emod_nonneg _ (by omega))
      have hnk : nn < k := by have := Int.emod_lt_of_pos turn (show (0 : Int) < (k : Int) by omega); omega
      have li0 : Hid (∀ u, Kept wq u → u.cell? ⟨g, 0, none⟩ = some (.string (O 0).key) ∧ u.cell? ⟨g, 1, none⟩ = some (.int .u64 (O 0).s.p) ∧ u.cell? ⟨g, 2, none⟩ = some (.int .u32 (O 0).s.l) ∧ u.cell? ⟨g, 3, none⟩ = some (.int .u8 (O 0).s.n) ∧ u.cell? ⟨g, 4, none⟩ = some (.int .u8 (O 0).kind) ∧ u.cell? ⟨g, 5, none⟩ = some (.int .u32 (O 0).flags) ∧ u.cell? ⟨g, 6, none⟩ = some (.int .u64 (O 0).exp) ∧ u.cell? ⟨g, 7, none⟩ = some (.string (O 0).body)) := fun u h => by
        have := lies_kept (HLi.out 0 hpos) Hgl.out h
        simpa [Lies] using this
      have lin : Hid (∀ u, Kept wq u → Lies u g (nn * 8) (O nn)) := fun u h => lies_kept (HLi.out nn hnk) Hgl.out h
      clear HO HO2 hO HS HRow HB HG HKs O0 K0 hi hz0 hz1 hz2 hlt
      go_wp2_with fail
      have kk : Kept wq wq.drew := kept_refl wq
      obtain ⟨a0, ha0⟩ : ∃ a, a = O 0 := ⟨_, rfl⟩
      obtain ⟨b0, hb0⟩ : ∃ a, a = O nn := ⟨_, rfl⟩
      rw [← ha0] at li0
      rw [← hb0] at lin
      have Ha0 := hid ha0
      have Hb0 := hid hb0
      clear ha0 hb0
      refine wp_region_noPanic ?_
      refine wp_region_held_drew (S := (fun w' => (w'.cell? ⟨g, 0, none⟩ = some (.string a0.key) ∧ w'.cell? ⟨g, 1, none⟩ = some (.int .u64 a0.s.p) ∧ w'.cell? ⟨g, 2, none⟩ = some (.int .u32 a0.s.l) ∧ w'.cell? ⟨g, 3, none⟩ = some (.int .u8 a0.s.n) ∧ w'.cell? ⟨g, 4, none⟩ = some (.int .u8 a0.kind) ∧ w'.cell? ⟨g, 5, none⟩ = some (.int .u32 a0.flags) ∧ w'.cell? ⟨g, 6, none⟩ = some (.int .u64 a0.exp) ∧ w'.cell? ⟨g, 7, none⟩ = some (.string a0.body)) ∧ (w'.cell? ⟨g, nn * 8, none⟩ = some (.string b0.key) ∧ w'.cell? ⟨g, nn * 8 + 1, none⟩ = some (.int .u64 b0.s.p) ∧ w'.cell? ⟨g, nn * 8 + 2, none⟩ = some (.int .u32 b0.s.l) ∧ w'.cell? ⟨g, nn * 8 + 3, none⟩ = some (.int .u8 b0.s.n) ∧ w'.cell? ⟨g, nn * 8 + 4, none⟩ = some (.int .u8 b0.kind) ∧ w'.cell? ⟨g, nn * 8 + 5, none⟩ = some (.int .u32 b0.flags) ∧ w'.cell? ⟨g, nn * 8 + 6, none⟩ = some (.int .u64 b0.exp) ∧ w'.cell? ⟨g, nn * 8 + 7, none⟩ = some (.string b0.body)))) (by kernel_rfl) (⟨li0.out _ kk, lin.out _ kk⟩) (fun hHeld => ?_)
      refine wpAnyH_take (i := 0) (v := .slice (some ⟨g, 0, none⟩) k cap') rfl (by kernel_rfl) (by kernel_rfl) (by kernel_rfl) (fun _ _ _ h => h) (Or.inl ⟨by rfl, fun w hSw => by (try dsimp only at hSw); go_simp⟩) (by assumption) ?_
      try simp only [List.getElem_toArray, List.getElem_cons_zero, List.getElem_cons_succ, Act.put, List.setIfInBounds_toArray, List.set_cons_zero, List.set_cons_succ]
      refine wpAnyH_take (i := 1) (v := .pointer (some ⟨g, 0, none⟩)) rfl (by kernel_rfl) (by kernel_rfl) (by kernel_rfl) (fun _ _ _ h => h) (Or.inl ⟨by rfl, fun w hSw => by (try dsimp only at hSw); go_simp⟩) (by assumption) ?_
      try simp only [List.getElem_toArray, List.getElem_cons_zero, List.getElem_cons_succ, Act.put, List.setIfInBounds_toArray, List.set_cons_zero, List.set_cons_succ]
      refine wpAnyH_take (i := 2) (v := .agg #[.string a0.key, .int .u64 a0.s.p, .int .u32 a0.s.l, .int .u8 a0.s.n, .int .u8 a0.kind, .int .u32 a0.flags, .int .u64 a0.exp, .string a0.body]) rfl (by kernel_rfl) (by kernel_rfl) (by kernel_rfl) (fun _ _ _ h => h) (Or.inl ⟨by rfl, fun w hSw => by (try dsimp only at hSw); go_simp⟩) (by assumption) ?_
      try simp only [List.getElem_toArray, List.getElem_cons_zero, List.getElem_cons_succ, Act.put, List.setIfInBounds_toArray, List.set_cons_zero, List.set_cons_succ]
      refine wpAnyH_take (i := 3) (v := .slice (some ⟨g, 0, none⟩) k cap') rfl (by kernel_rfl) (by kernel_rfl) (by kernel_rfl) (fun _ _ _ h => h) (Or.inl ⟨by rfl, fun w hSw => by (try dsimp only at hSw); go_simp⟩) (by assumption) ?_
      try simp only [List.getElem_toArray, List.getElem_cons_zero, List.getElem_cons_succ, Act.put, List.setIfInBounds_toArray, List.set_cons_zero, List.set_cons_succ]
      refine wpAnyH_take (i := 4) (v := .int .i64 (nn : Int)) rfl (by kernel_rfl) (by kernel_rfl) (by kernel_rfl) (fun _ _ _ h => h) (Or.inl ⟨by rfl, fun w hSw => by (try dsimp only at hSw); go_simp⟩) (by assumption) ?_
      try simp only [List.getElem_toArray, List.getElem_cons_zero, List.getElem_cons_succ, Act.put, List.setIfInBounds_toArray, List.set_cons_zero, List.set_cons_succ]
      refine wpAnyH_take (i := 5) (v := .pointer (some ⟨g, nn * 8, none⟩)) rfl (by kernel_rfl) (by kernel_rfl) (by kernel_rfl) (fun _ _ _ h => h) (Or.inl ⟨by rfl, fun w hSw => by (try dsimp only at hSw); go_simp⟩) (by assumption) ?_
      try simp only [List.getElem_toArray, List.getElem_cons_zero, List.getElem_cons_succ, Act.put, List.setIfInBounds_toArray, List.set_cons_zero, List.set_cons_succ]
      refine wpAnyH_take (i := 6) (v := .agg #[.string b0.key, .int .u64 b0.s.p, .int .u32 b0.s.l, .int .u8 b0.s.n, .int .u8 b0.kind, .int .u32 b0.flags, .int .u64 b0.exp, .string b0.body]) rfl (by kernel_rfl) (by kernel_rfl) (by kernel_rfl) (fun _ _ _ h => h) (Or.inl ⟨by rfl, fun w hSw => by (try dsimp only at hSw); go_simp⟩) (by assumption) ?_
      try simp only [List.getElem_toArray, List.getElem_cons_zero, List.getElem_cons_succ, Act.put, List.setIfInBounds_toArray, List.set_cons_zero, List.set_cons_succ]
      refine wpAnyH_ready (rs := [7, 8]) (by kernel_rfl) (by simp) ?_
      refine AllReadyH.cons (i := 7) rfl (fun K hK => ?_) ?_
      · have ZbA : At (wq.alloc (.cells #[.string ⟨#[]⟩, .int .u64 0, .int .u32 0, .int .u8 0, .int .u8 0, .int .u32 0, .int .u64 0, .string ⟨#[]⟩] 27)).drew wq.heap.size #[.string ⟨#[]⟩, .int .u64 0, .int .u32 0, .int .u8 0, .int .u8 0, .int .u32 0, .int .u64 0, .string ⟨#[]⟩] 27 := at_new wq _ _
        have kk2 : Kept wq (wq.alloc (.cells #[.string ⟨#[]⟩, .int .u64 0, .int .u32 0, .int .u8 0, .int .u8 0, .int .u32 0, .int .u64 0, .string ⟨#[]⟩] 27)).drew := kept_alloc kk _
        have KsbA : Hid (∀ u', Kept wq u' → ∀ a0 a1 a2 a3 a4 a5 a6 a7, Kept wq (set8 u' wq.heap.size a0 a1 a2 a3 a4 a5 a6 a7)) := fun u' h a0 a1 a2 a3 a4 a5 a6 a7 => kept_set8 h kk.2 a0 a1 a2 a3 a4 a5 a6 a7
        clear kk
        go_simp
        have kk := kk2
        clear kk2 hHeld
        show K _ (wq.alloc (.cells #[.string ⟨#[]⟩, .int .u64 0, .int .u32 0, .int .u8 0, .int .u8 0, .int .u32 0, .int .u64 0, .string ⟨#[]⟩] 27)).drew
        generalize (wq.alloc (.cells #[.string ⟨#[]⟩, .int .u64 0, .int .u32 0, .int .u8 0, .int .u8 0, .int .u32 0, .int .u64 0, .string ⟨#[]⟩] 27)).drew = u1 at *
        generalize hbb : wq.heap.size = bA at ZbA KsbA ⊢
        clear hbb
        refine hK.out _ _ (⟨li0.out _ kk, lin.out _ kk⟩) (fun hHeld => ?_)
        clear hK K
        try simp only [List.getElem_toArray, List.getElem_cons_zero, List.getElem_cons_succ, Act.put, List.setIfInBounds_toArray, List.set_cons_zero, List.set_cons_succ]
        refine wpAnyH_ready (rs := [8]) (by kernel_rfl) (by simp) ?_
        refine AllReadyH.cons (i := 8) rfl (fun K hK => ?_) AllReadyH.nil
        have ZbB : At (u1.alloc (.cells #[.string ⟨#[]⟩, .int .u64 0, .int .u32 0, .int .u8 0, .int .u8 0, .int .u32 0, .int .u64 0, .string ⟨#[]⟩] 27)) u1.heap.size #[.string ⟨#[]⟩, .int .u64 0, .int .u32 0, .int .u8 0, .int .u8 0, .int .u32 0, .int .u64 0, .string ⟨#[]⟩] 27 := at_new u1 _ _
        have kk2 : Kept wq (u1.alloc (.cells #[.string ⟨#[]⟩, .int .u64 0, .int .u32 0, .int .u8 0, .int .u8 0, .int .u32 0, .int .u64 0, .string ⟨#[]⟩] 27)) := kept_alloc kk _
        have KsbB : Hid (∀ u', Kept wq u' → ∀ a0 a1 a2 a3 a4 a5 a6 a7, Kept wq (set8 u' u1.heap.size a0 a1 a2 a3 a4 a5 a6 a7)) := fun u' h a0 a1 a2 a3 a4 a5 a6 a7 => kept_set8 h kk.2 a0 a1 a2 a3 a4 a5 a6 a7
        have nAB : bA ≠ u1.heap.size := Nat.ne_of_lt (at_lt ZbA)
        replace ZbA : At (u1.alloc (.cells #[.string ⟨#[]⟩, .int .u64 0, .int .u32 0, .int .u8 0, .int .u8 0, .int .u32 0, .int .u64 0, .string ⟨#[]⟩] 27)) bA #[.string ⟨#[]⟩, .int .u64 0, .int .u32 0, .int .u8 0, .int .u8 0, .int .u32 0, .int .u64 0, .string ⟨#[]⟩] 27 := at_alloc ZbA _
        clear kk
        go_simp
        have kk := kk2
        clear kk2 hHeld
        show K _ (u1.alloc (.cells #[.string ⟨#[]⟩, .int .u64 0, .int .u32 0, .int .u8 0, .int .u8 0, .int .u32 0, .int .u64 0, .string ⟨#[]⟩] 27))
        generalize (u1.alloc (.cells #[.string ⟨#[]⟩, .int .u64 0, .int .u32 0, .int .u8 0, .int .u8 0, .int .u32 0, .int .u64 0, .string ⟨#[]⟩] 27)) = u2 at *
        generalize u1.heap.size = bB at *
        refine hK.out _ _ (⟨li0.out _ kk, lin.out _ kk⟩) (fun hHeld => ?_)
        clear hK K
        try simp only [List.getElem_toArray, List.getElem_cons_zero, List.getElem_cons_succ, Act.put, List.setIfInBounds_toArray, List.set_cons_zero, List.set_cons_succ]
        refine wpAnyH_ready (rs := [9]) (by kernel_rfl) (by simp) ?_
        refine AllReadyH.cons (i := 9) rfl (fun K hK => ?_) AllReadyH.nil
        obtain ⟨d0, d1, d2, d3, d4, d5, d6, d7, df⟩ := at_cells8 ZbA
        go_simp
        clear d0 d1 d2 d3 d4 d5 d6 d7 df hHeld
        show K _ (set8 u2 bA (.string a0.key) (.int .u64 a0.s.p) (.int .u32 a0.s.l) (.int .u8 a0.s.n) (.int .u8 a0.kind) (.int .u32 a0.flags) (.int .u64 a0.exp) (.string a0.body))
        replace ZbA := at_set8 ZbA (.string a0.key) (.int .u64 a0.s.p) (.int .u32 a0.s.l) (.int .u8 a0.s.n) (.int .u8 a0.kind) (.int .u32 a0.flags) (.int .u64 a0.exp) (.string a0.body)
        replace ZbB := at_other8 ZbB (Ne.symm nAB) (.string a0.key) (.int .u64 a0.s.p) (.int .u32 a0.s.l) (.int .u8 a0.s.n) (.int .u8 a0.kind) (.int .u32 a0.flags) (.int .u64 a0.exp) (.string a0.body)
        replace kk := KsbA.out _ kk (.string a0.key) (.int .u64 a0.s.p) (.int .u32 a0.s.l) (.int .u8 a0.s.n) (.int .u8 a0.kind) (.int .u32 a0.flags) (.int .u64 a0.exp) (.string a0.body)
        generalize set8 u2 bA (.string a0.key) (.int .u64 a0.s.p) (.int .u32 a0.s.l) (.int .u8 a0.s.n) (.int .u8 a0.kind) (.int .u32 a0.flags) (.int .u64 a0.exp) (.string a0.body) = u3 at *
        refine hK.out _ _ (⟨li0.out _ kk, lin.out _ kk⟩) (fun hHeld => ?_)
        clear hK K
        try simp only [List.getElem_toArray, List.getElem_cons_zero, List.getElem_cons_succ, Act.put, List.setIfInBounds_toArray, List.set_cons_zero, List.set_cons_succ]
        refine wpAnyH_ready (rs := [10]) (by kernel_rfl) (by simp) ?_
        refine AllReadyH.cons (i := 10) rfl (fun K hK => ?_) AllReadyH.nil
        obtain ⟨d0, d1, d2, d3, d4, d5, d6, d7, df⟩ := at_cells8 ZbB
        go_simp
        clear d0 d1 d2 d3 d4 d5 d6 d7 df hHeld
        show K _ (set8 u3 bB (.string b0.key) (.int .u64 b0.s.p) (.int .u32 b0.s.l) (.int .u8 b0.s.n) (.int .u8 b0.kind) (.int .u32 b0.flags) (.int .u64 b0.exp) (.string b0.body))
        replace ZbB := at_set8 ZbB (.string b0.key) (.int .u64 b0.s.p) (.int .u32 b0.s.l) (.int .u8 b0.s.n) (.int .u8 b0.kind) (.int .u32 b0.flags) (.int .u64 b0.exp) (.string b0.body)
        replace ZbA := at_other8 ZbA nAB (.string b0.key) (.int .u64 b0.s.p) (.int .u32 b0.s.l) (.int .u8 b0.s.n) (.int .u8 b0.kind) (.int .u32 b0.flags) (.int .u64 b0.exp) (.string b0.body)
        replace kk := KsbB.out _ kk (.string b0.key) (.int .u64 b0.s.p) (.int .u32 b0.s.l) (.int .u8 b0.s.n) (.int .u8 b0.kind) (.int .u32 b0.flags) (.int .u64 b0.exp) (.string b0.body)
        generalize set8 u3 bB (.string b0.key) (.int .u64 b0.s.p) (.int .u32 b0.s.l) (.int .u8 b0.s.n) (.int .u8 b0.kind) (.int .u32 b0.flags) (.int .u64 b0.exp) (.string b0.body) = u4 at *
        refine hK.out _ _ (⟨li0.out _ kk, lin.out _ kk⟩) (fun hHeld => ?_)
        clear hK K
        try simp only [List.getElem_toArray, List.getElem_cons_zero, List.getElem_cons_succ, Act.put, List.setIfInBounds_toArray, List.set_cons_zero, List.set_cons_succ]
        refine wpAnyH_done (by kernel_rfl) ?_ _
        refine NoPanic.normal ?_
        clear hHeld li0 lin
        have ZA2 : Hid (At u4 bA #[.string (fa O 0).key, .int .u64 (fa O 0).s.p, .int .u32 (fa O 0).s.l, .int .u8 (fa O 0).s.n, .int .u8 (fa O 0).kind, .int .u32 (fa O 0).flags, .int .u64 (fa O 0).exp, .string (fa O 0).body] 27) := by have h := ZbA; rw [Ha0.out] at h; exact h
        have ZB2 : Hid (At u4 bB #[.string (fb O nn k 0).key, .int .u64 (fb O nn k 0).s.p, .int .u32 (fb O nn k 0).s.l, .int .u8 (fb O nn k 0).s.n, .int .u8 (fb O nn k 0).kind, .int .u32 (fb O nn k 0).flags, .int .u64 (fb O nn k 0).exp, .string (fb O nn k 0).body] 27) := by have h := ZbB; rw [Hb0.out] at h; exact h
        have KK2 := hid kk
        have NAB : Hid (bA ≠ bB) := nAB
        clear ZbA ZbB kk nAB Ha0 Hb0
        go_wp2_with fail
        go_loopw [13, 61] (fun _ jv w2 => ∃ i : Nat, i ≤ k ∧ jv = .int .i64 i ∧ Hid (Kept wq w2) ∧ Hid (At w2 bA #[.string (fa O i).key, .int .u64 (fa O i).s.p, .int .u32 (fa O i).s.l, .int .u8 (fa O i).s.n, .int .u8 (fa O i).kind, .int .u32 (fa O i).flags, .int .u64 (fa O i).exp, .string (fa O i).body] 27) ∧ Hid (At w2 bB #[.string (fb O nn k i).key, .int .u64 (fb O nn k i).s.p, .int .u32 (fb O nn k i).s.l, .int .u8 (fb O nn k i).s.n, .int .u8 (fb O nn k i).kind, .int .u32 (fb O nn k i).flags, .int .u64 (fb O nn k i).exp, .string (fb O nn k i).body] 27)) (fun _ jv _ => k - (intOf jv).toNat)
        case atStart => exact ⟨0, Nat.zero_le _, rfl, KK2, ZA2, ZB2⟩
        case round =>
          obtain ⟨i, hi, rfl, KK, ZA, ZB⟩ := hrel
          obtain ⟨w2, hw2⟩ : ∃ x, x = wr := ⟨_, rfl⟩
          subst hw2
          by_cases hlt : i < k
          · obtain ⟨mm, hmm⟩ : ∃ m, m = (nn + k - i) % k := ⟨_, rfl⟩
            have hmk : mm < k := by rw [hmm]; exact Nat.mod_lt _ hpos
            have hmi : ((nn : Int) + (k : Int) - (i : Int)) % (k : Int) = (mm : Int) := mod_cast' nn k i mm (by omega) hmm
            have hJ1 := Join_any (fa O i) (O i) (joins_sizes HSz.out (fa_mem O k hpos i hi)) (HSz.out i hlt)
            have hJ2 := Join_any (O mm) (fb O nn k i) (HSz.out mm hmk) (joins_sizes HSz.out (fb_mem O nn k hnk i hi))
            have HA1 : Hid (fa O (i + 1) = joinR (fa O i) (O i)) := rfl
            have HB1 : Hid (fb O nn k (i + 1) = joinR (O mm) (fb O nn k i)) := by show _ = _; rw [hmm]; rfl
            have LI : Hid (∀ u, Kept wq u → Lies u g (i * 8) (O i)) := fun u h => lies_kept (HLi.out i hlt) Hgl.out h
            have LM : Hid (∀ u, Kept wq u → Lies u g (mm * 8) (O mm)) := fun u h => lies_kept (HLi.out mm hmk) Hgl.out h
            have hw1 : IntKind.i64.wrap ((nn : Int) + (k : Int)) = (nn : Int) + (k : Int) := by rw [IntKind.wrap_i64]; omega
            have hw2 : IntKind.i64.wrap ((nn : Int) + (k : Int) - (i : Int)) = (nn : Int) + (k : Int) - (i : Int) := by rw [IntKind.wrap_i64]; omega
            have hmt : ((nn : Int) + (k : Int) - (i : Int)).tmod (k : Int) = (mm : Int) := by rw [Int.tmod_eq_emod_of_nonneg (by omega)]; exact hmi
            clear hmm
            generalize fa O i = x at *
            generalize fb O nn k i = z at *
            generalize O i = y at *
            generalize O mm = t at *
            generalize joinR x y = x1 at *
            generalize joinR t z = z1 at *
            go_wp2_with fail
            have kk : Kept wq w2.drew := kept_drew KK.out
            have hZA : At w2.drew bA #[.string x.key, .int .u64 x.s.p, .int .u32 x.s.l, .int .u8 x.s.n, .int .u8 x.kind, .int .u32 x.flags, .int .u64 x.exp, .string x.body] 27 := ZA.out
            have hZB : At w2.drew bB #[.string z.key, .int .u64 z.s.p, .int .u32 z.s.l, .int .u8 z.s.n, .int .u8 z.kind, .int .u32 z.flags, .int .u64 z.exp, .string z.body] 27 := ZB.out
            clear KK ZA ZB
            refine wp_region_noPanic ?_
            refine wp_region_held_drew (S := (fun w' => w'.cell? ⟨g, i * 8, none⟩ = some (.string y.key) ∧ w'.cell? ⟨g, i * 8 + 1, none⟩ = some (.int .u64 y.s.p) ∧ w'.cell? ⟨g, i * 8 + 2, none⟩ = some (.int .u32 y.s.l) ∧ w'.cell? ⟨g, i * 8 + 3, none⟩ = some (.int .u8 y.s.n) ∧ w'.cell? ⟨g, i * 8 + 4, none⟩ = some (.int .u8 y.kind) ∧ w'.cell? ⟨g, i * 8 + 5, none⟩ = some (.int .u32 y.flags) ∧ w'.cell? ⟨g, i * 8 + 6, none⟩ = some (.int .u64 y.exp) ∧ w'.cell? ⟨g, i * 8 + 7, none⟩ = some (.string y.body))) (by kernel_rfl) (LI.out _ kk) (fun hHeld => ?_)
            refine wpAnyH_take (i := 1) (v := .slice (some ⟨g, 0, none⟩) k cap') rfl (by kernel_rfl) (by kernel_rfl) (by kernel_rfl) (fun _ _ _ h => h) (Or.inl ⟨by rfl, fun w hSw => by (try dsimp only at hSw); go_simp⟩) (by assumption) ?_
            try simp only [List.getElem_toArray, List.getElem_cons_zero, List.getElem_cons_succ, Act.put, List.setIfInBounds_toArray, List.set_cons_zero, List.set_cons_succ]
            refine wpAnyH_take (i := 2) (v := .int .i64 (i : Int)) rfl (by kernel_rfl) (by kernel_rfl) (by kernel_rfl) (fun _ _ _ h => h) (Or.inl ⟨by rfl, fun w hSw => by (try dsimp only at hSw); go_simp⟩) (by assumption) ?_
            try simp only [List.getElem_toArray, List.getElem_cons_zero, List.getElem_cons_succ, Act.put, List.setIfInBounds_toArray, List.set_cons_zero, List.set_cons_succ]
            refine wpAnyH_take (i := 3) (v := .pointer (some ⟨g, i * 8, none⟩)) rfl (by kernel_rfl) (by kernel_rfl) (by kernel_rfl) (fun _ _ _ h => h) (Or.inl ⟨by rfl, fun w hSw => by (try dsimp only at hSw); go_simp⟩) (by assumption) ?_
            try simp only [List.getElem_toArray, List.getElem_cons_zero, List.getElem_cons_succ, Act.put, List.setIfInBounds_toArray, List.set_cons_zero, List.set_cons_succ]
            refine wpAnyH_take (i := 4) (v := .agg #[.string y.key, .int .u64 y.s.p, .int .u32 y.s.l, .int .u8 y.s.n, .int .u8 y.kind, .int .u32 y.flags, .int .u64 y.exp, .string y.body]) rfl (by kernel_rfl) (by kernel_rfl) (by kernel_rfl) (fun _ _ _ h => h) (Or.inl ⟨by rfl, fun w hSw => by (try dsimp only at hSw); go_simp⟩) (by assumption) ?_
            try simp only [List.getElem_toArray, List.getElem_cons_zero, List.getElem_cons_succ, Act.put, List.setIfInBounds_toArray, List.set_cons_zero, List.set_cons_succ]
            refine wpAnyH_ready (rs := [0]) (by kernel_rfl) (by simp) ?_
            refine AllReadyH.cons (i := 0) rfl (fun K hK => ?_) AllReadyH.nil
            obtain ⟨d0, d1, d2, d3, d4, d5, d6, d7, df⟩ := at_cells8 hZA
            go_simp
            clear d0 d1 d2 d3 d4 d5 d6 d7 df
            clear hHeld
            show K _ _
            refine hK.out _ _ (LI.out _ kk) (fun hHeld => ?_)
            clear hK K
            try simp only [List.getElem_toArray, List.getElem_cons_zero, List.getElem_cons_succ, Act.put, List.setIfInBounds_toArray, List.set_cons_zero, List.set_cons_succ]
            refine wpAnyH_ready (rs := [5]) (by kernel_rfl) (by simp) ?_
            refine AllReadyH.cons (i := 5) rfl (fun K hK => ?_) AllReadyH.nil
            go_simp
            refine (hJ1 _).mono ?_
            rintro e w3 ⟨rfl, h3⟩
            replace kk := kept_trans kk h3
            replace hZA := at_kept hZA h3
            replace hZB := at_kept hZB h3
            clear h3
            clear hHeld
            show K _ _
            refine hK.out _ _ (LI.out _ kk) (fun hHeld => ?_)
            clear hK K
            try simp only [List.getElem_toArray, List.getElem_cons_zero, List.getElem_cons_succ, Act.put, List.setIfInBounds_toArray, List.set_cons_zero, List.set_cons_succ]
            refine wpAnyH_ready (rs := [6]) (by kernel_rfl) (by simp) ?_
            refine AllReadyH.cons (i := 6) rfl (fun K hK => ?_) AllReadyH.nil
            obtain ⟨d0, d1, d2, d3, d4, d5, d6, d7, df⟩ := at_cells8 hZA
            go_simp
            clear d0 d1 d2 d3 d4 d5 d6 d7 df
            show K _ (set8 w3 bA (.string x1.key) (.int .u64 x1.s.p) (.int .u32 x1.s.l) (.int .u8 x1.s.n) (.int .u8 x1.kind) (.int .u32 x1.flags) (.int .u64 x1.exp) (.string x1.body))
            replace hZA := at_set8 hZA (.string x1.key) (.int .u64 x1.s.p) (.int .u32 x1.s.l) (.int .u8 x1.s.n) (.int .u8 x1.kind) (.int .u32 x1.flags) (.int .u64 x1.exp) (.string x1.body)
            replace hZB := at_other8 hZB (Ne.symm NAB.out) (.string x1.key) (.int .u64 x1.s.p) (.int .u32 x1.s.l) (.int .u8 x1.s.n) (.int .u8 x1.kind) (.int .u32 x1.flags) (.int .u64 x1.exp) (.string x1.body)
            replace kk := KsbA.out _ kk (.string x1.key) (.int .u64 x1.s.p) (.int .u32 x1.s.l) (.int .u8 x1.s.n) (.int .u8 x1.kind) (.int .u32 x1.flags) (.int .u64 x1.exp) (.string x1.body)
            generalize set8 w3 bA (.string x1.key) (.int .u64 x1.s.p) (.int .u32 x1.s.l) (.int .u8 x1.s.n) (.int .u8 x1.kind) (.int .u32 x1.flags) (.int .u64 x1.exp) (.string x1.body) = u5 at *
            clear hHeld
            show K _ _
            refine hK.out _ _ (LI.out _ kk) (fun hHeld => ?_)
            clear hK K
            try simp only [List.getElem_toArray, List.getElem_cons_zero, List.getElem_cons_succ, Act.put, List.setIfInBounds_toArray, List.set_cons_zero, List.set_cons_succ]
            refine wpAnyH_done (by kernel_rfl) ?_ _
            refine NoPanic.normal ?_
            clear hHeld
            go_wp2_with fail
            replace kk : Kept wq u5.drew := kept_drew kk
            replace hZA := at_drew hZA
            replace hZB := at_drew hZB
            refine wp_region_noPanic ?_
            refine wp_region_held_drew (S := (fun w' => w'.cell? ⟨g, mm * 8, none⟩ = some (.string t.key) ∧ w'.cell? ⟨g, mm * 8 + 1, none⟩ = some (.int .u64 t.s.p) ∧ w'.cell? ⟨g, mm * 8 + 2, none⟩ = some (.int .u32 t.s.l) ∧ w'.cell? ⟨g, mm * 8 + 3, none⟩ = some (.int .u8 t.s.n) ∧ w'.cell? ⟨g, mm * 8 + 4, none⟩ = some (.int .u8 t.kind) ∧ w'.cell? ⟨g, mm * 8 + 5, none⟩ = some (.int .u32 t.flags) ∧ w'.cell? ⟨g, mm * 8 + 6, none⟩ = some (.int .u64 t.exp) ∧ w'.cell? ⟨g, mm * 8 + 7, none⟩ = some (.string t.body))) (by kernel_rfl) (LM.out _ kk) (fun hHeld => ?_)
            refine wpAnyH_take (i := 0) (v := .slice (some ⟨g, 0, none⟩) k cap') rfl (by kernel_rfl) (by kernel_rfl) (by kernel_rfl) (fun _ _ _ h => h) (Or.inl ⟨by rfl, fun w hSw => by (try dsimp only at hSw); go_simp⟩) (by assumption) ?_
            try simp only [List.getElem_toArray, List.getElem_cons_zero, List.getElem_cons_succ, Act.put, List.setIfInBounds_toArray, List.set_cons_zero, List.set_cons_succ]
            refine wpAnyH_take (i := 1) (v := .int .i64 (nn : Int)) rfl (by kernel_rfl) (by kernel_rfl) (by kernel_rfl) (fun _ _ _ h => h) (Or.inl ⟨by rfl, fun w hSw => by (try dsimp only at hSw); go_simp⟩) (by assumption) ?_
            try simp only [List.getElem_toArray, List.getElem_cons_zero, List.getElem_cons_succ, Act.put, List.setIfInBounds_toArray, List.set_cons_zero, List.set_cons_succ]
            refine wpAnyH_take (i := 2) (v := .slice (some ⟨g, 0, none⟩) k cap') rfl (by kernel_rfl) (by kernel_rfl) (by kernel_rfl) (fun _ _ _ h => h) (Or.inl ⟨by rfl, fun w hSw => by (try dsimp only at hSw); go_simp⟩) (by assumption) ?_
            try simp only [List.getElem_toArray, List.getElem_cons_zero, List.getElem_cons_succ, Act.put, List.setIfInBounds_toArray, List.set_cons_zero, List.set_cons_succ]
            refine wpAnyH_take (i := 3) (v := .int .i64 (k : Int)) rfl (by kernel_rfl) (by kernel_rfl) (by kernel_rfl) (fun _ _ _ h => h) (Or.inl ⟨by rfl, fun w hSw => by (try dsimp only at hSw); go_simp⟩) (by assumption) ?_
            try simp only [List.getElem_toArray, List.getElem_cons_zero, List.getElem_cons_succ, Act.put, List.setIfInBounds_toArray, List.set_cons_zero, List.set_cons_succ]
            refine wpAnyH_take (i := 4) (v := .int .i64 ((nn : Int) + (k : Int))) rfl (by kernel_rfl) (by kernel_rfl) (by kernel_rfl) (fun _ _ _ h => h) (Or.inl ⟨by rfl, fun w hSw => by (try dsimp only at hSw); go_simp⟩) (by assumption) ?_
            try simp only [List.getElem_toArray, List.getElem_cons_zero, List.getElem_cons_succ, Act.put, List.setIfInBounds_toArray, List.set_cons_zero, List.set_cons_succ]
            refine wpAnyH_take (i := 5) (v := .int .i64 (i : Int)) rfl (by kernel_rfl) (by kernel_rfl) (by kernel_rfl) (fun _ _ _ h => h) (Or.inl ⟨by rfl, fun w hSw => by (try dsimp only at hSw); go_simp⟩) (by assumption) ?_
            try simp only [List.getElem_toArray, List.getElem_cons_zero, List.getElem_cons_succ, Act.put, List.setIfInBounds_toArray, List.set_cons_zero, List.set_cons_succ]
            refine wpAnyH_take (i := 6) (v := .int .i64 ((nn : Int) + (k : Int) - (i : Int))) rfl (by kernel_rfl) (by kernel_rfl) (by kernel_rfl) (fun _ _ _ h => h) (Or.inl ⟨by rfl, fun w hSw => by (try dsimp only at hSw); go_simp⟩) (by assumption) ?_
            try simp only [List.getElem_toArray, List.getElem_cons_zero, List.getElem_cons_succ, Act.put, List.setIfInBounds_toArray, List.set_cons_zero, List.set_cons_succ]
            refine wpAnyH_take (i := 7) (v := .slice (some ⟨g, 0, none⟩) k cap') rfl (by kernel_rfl) (by kernel_rfl) (by kernel_rfl) (fun _ _ _ h => h) (Or.inl ⟨by rfl, fun w hSw => by (try dsimp only at hSw); go_simp⟩) (by assumption) ?_
            try simp only [List.getElem_toArray, List.getElem_cons_zero, List.getElem_cons_succ, Act.put, List.setIfInBounds_toArray, List.set_cons_zero, List.set_cons_succ]
            refine wpAnyH_take (i := 8) (v := .int .i64 (k : Int)) rfl (by kernel_rfl) (by kernel_rfl) (by kernel_rfl) (fun _ _ _ h => h) (Or.inl ⟨by rfl, fun w hSw => by (try dsimp only at hSw); go_simp⟩) (by assumption) ?_
            try simp only [List.getElem_toArray, List.getElem_cons_zero, List.getElem_cons_succ, Act.put, List.setIfInBounds_toArray, List.set_cons_zero, List.set_cons_succ]
            refine wpAnyH_take (i := 9) (v := .int .i64 (mm : Int)) rfl (by kernel_rfl) (by kernel_rfl) (by kernel_rfl) (fun _ _ _ h => h) (Or.inl ⟨by rfl, fun w hSw => by (try dsimp only at hSw); go_simp⟩) (by assumption) ?_
            try simp only [List.getElem_toArray, List.getElem_cons_zero, List.getElem_cons_succ, Act.put, List.setIfInBounds_toArray, List.set_cons_zero, List.set_cons_succ]
            refine wpAnyH_take (i := 10) (v := .pointer (some ⟨g, mm * 8, none⟩)) rfl (by kernel_rfl) (by kernel_rfl) (by kernel_rfl) (fun _ _ _ h => h) (Or.inl ⟨by rfl, fun w hSw => by (try dsimp only at hSw); go_simp⟩) (by assumption) ?_
            try simp only [List.getElem_toArray, List.getElem_cons_zero, List.getElem_cons_succ, Act.put, List.setIfInBounds_toArray, List.set_cons_zero, List.set_cons_succ]
            refine wpAnyH_take (i := 11) (v := .agg #[.string t.key, .int .u64 t.s.p, .int .u32 t.s.l, .int .u8 t.s.n, .int .u8 t.kind, .int .u32 t.flags, .int .u64 t.exp, .string t.body]) rfl (by kernel_rfl) (by kernel_rfl) (by kernel_rfl) (fun _ _ _ h => h) (Or.inl ⟨by rfl, fun w hSw => by (try dsimp only at hSw); go_simp⟩) (by assumption) ?_
            try simp only [List.getElem_toArray, List.getElem_cons_zero, List.getElem_cons_succ, Act.put, List.setIfInBounds_toArray, List.set_cons_zero, List.set_cons_succ]
            refine wpAnyH_ready (rs := [12]) (by kernel_rfl) (by simp) ?_
            refine AllReadyH.cons (i := 12) rfl (fun K hK => ?_) AllReadyH.nil
            obtain ⟨d0, d1, d2, d3, d4, d5, d6, d7, df⟩ := at_cells8 hZB
            go_simp
            clear d0 d1 d2 d3 d4 d5 d6 d7 df
            clear hHeld
            show K _ _
            refine hK.out _ _ (LM.out _ kk) (fun hHeld => ?_)
            clear hK K
            try simp only [List.getElem_toArray, List.getElem_cons_zero, List.getElem_cons_succ, Act.put, List.setIfInBounds_toArray, List.set_cons_zero, List.set_cons_succ]
            refine wpAnyH_ready (rs := [13]) (by kernel_rfl) (by simp) ?_
            refine AllReadyH.cons (i := 13) rfl (fun K hK => ?_) AllReadyH.nil
            go_simp
            refine (hJ2 _).mono ?_
            rintro e w3 ⟨rfl, h3⟩
            replace kk := kept_trans kk h3
            replace hZA := at_kept hZA h3
            replace hZB := at_kept hZB h3
            clear h3
            clear hHeld
            show K _ _
            refine hK.out _ _ (LM.out _ kk) (fun hHeld => ?_)
            clear hK K
            try simp only [List.getElem_toArray, List.getElem_cons_zero, List.getElem_cons_succ, Act.put, List.setIfInBounds_toArray, List.set_cons_zero, List.set_cons_succ]
            refine wpAnyH_ready (rs := [14]) (by kernel_rfl) (by simp) ?_
            refine AllReadyH.cons (i := 14) rfl (fun K hK => ?_) AllReadyH.nil
            obtain ⟨d0, d1, d2, d3, d4, d5, d6, d7, df⟩ := at_cells8 hZB
            go_simp
            clear d0 d1 d2 d3 d4 d5 d6 d7 df
            show K _ (set8 w3 bB (.string z1.key) (.int .u64 z1.s.p) (.int .u32 z1.s.l) (.int .u8 z1.s.n) (.int .u8 z1.kind) (.int .u32 z1.flags) (.int .u64 z1.exp) (.string z1.body))
            replace hZB := at_set8 hZB (.string z1.key) (.int .u64 z1.s.p) (.int .u32 z1.s.l) (.int .u8 z1.s.n) (.int .u8 z1.kind) (.int .u32 z1.flags) (.int .u64 z1.exp) (.string z1.body)
            replace hZA := at_other8 hZA NAB.out (.string z1.key) (.int .u64 z1.s.p) (.int .u32 z1.s.l) (.int .u8 z1.s.n) (.int .u8 z1.kind) (.int .u32 z1.flags) (.int .u64 z1.exp) (.string z1.body)
            replace kk := KsbB.out _ kk (.string z1.key) (.int .u64 z1.s.p) (.int .u32 z1.s.l) (.int .u8 z1.s.n) (.int .u8 z1.kind) (.int .u32 z1.flags) (.int .u64 z1.exp) (.string z1.body)
            generalize set8 w3 bB (.string z1.key) (.int .u64 z1.s.p) (.int .u32 z1.s.l) (.int .u8 z1.s.n) (.int .u8 z1.kind) (.int .u32 z1.flags) (.int .u64 z1.exp) (.string z1.body) = u6 at *
            clear hHeld
            show K _ _
            refine hK.out _ _ (LM.out _ kk) (fun hHeld => ?_)
            clear hK K
            try simp only [List.getElem_toArray, List.getElem_cons_zero, List.getElem_cons_succ, Act.put, List.setIfInBounds_toArray, List.set_cons_zero, List.set_cons_succ]
            refine wpAnyH_done (by kernel_rfl) ?_ _
            refine NoPanic.normal ?_
            clear hHeld
            have ZA3 : Hid (At u6 bA #[.string (fa O (i + 1)).key, .int .u64 (fa O (i + 1)).s.p, .int .u32 (fa O (i + 1)).s.l, .int .u8 (fa O (i + 1)).s.n, .int .u8 (fa O (i + 1)).kind, .int .u32 (fa O (i + 1)).flags, .int .u64 (fa O (i + 1)).exp, .string (fa O (i + 1)).body] 27) := by rw [HA1.out]; exact hZA
            have ZB3 : Hid (At u6 bB #[.string (fb O nn k (i + 1)).key, .int .u64 (fb O nn k (i + 1)).s.p, .int .u32 (fb O nn k (i + 1)).s.l, .int .u8 (fb O nn k (i + 1)).s.n, .int .u8 (fb O nn k (i + 1)).kind, .int .u32 (fb O nn k (i + 1)).flags, .int .u64 (fb O nn k (i + 1)).exp, .string (fb O nn k (i + 1)).body] 27) := by rw [HB1.out]; exact hZB
            have KK3 := hid kk
            clear kk hZA hZB
            go_wp2_with fail
            go_roundw
            case rel => exact ⟨i + 1, by omega, by go_num, KK3, ZA3, ZB3⟩
            case measure => simp [intOf]; omega
          · obtain rfl : i = k := by omega
            have HEQ : Hid (fa O i = fb O nn i i) := fa_eq_fb O nn i hnk key HKey.out
            have HGE : Hid (∀ j, j < i → cmpR (O j) (fa O i) ≤ 0) := fun j hj => fa_ge O i j hj
            have ZB3 : Hid (At w2 bB #[.string (fa O i).key, .int .u64 (fa O i).s.p, .int .u32 (fa O i).s.l, .int .u8 (fa O i).s.n, .int .u8 (fa O i).kind, .int .u32 (fa O i).flags, .int .u64 (fa O i).exp, .string (fa O i).body] 27) := by rw [HEQ.out]; exact ZB.out
            clear ZB HEQ
            generalize fa O i = x at *
            clear hlt
            go_wp2_with fail
            go_loopw [15, 87] (fun _ jv w5 => ∃ j : Nat, j ≤ i ∧ jv = .int .i64 j ∧ Hid (Kept w2 w5)) (fun _ jv _ => i - (intOf jv).toNat)
            case atStart => exact ⟨0, Nat.zero_le _, rfl, kept_refl w2⟩
            case round =>
              obtain ⟨j, hj, rfl, KW⟩ := hrel
              obtain ⟨w5, hw5⟩ : ∃ x, x = wr := ⟨_, rfl⟩
              subst hw5
              by_cases hlt : j < i
              · have hJ := Join_any (O j) (O j) (HSz.out j hlt) (HSz.out j hlt)
                rw [join_self] at hJ
                have hC := Compare_any (O j) x
                have hc0 := HGE.out j hlt
                obtain ⟨c0, c1, c2, c3, c4, c5, c6, c7⟩ := lies_kept (HLi.out j hlt) Hgl.out (kept_trans KK.out KW.out)
                generalize O j = y at *
                have hc1 : decide (0 < cmpR y x) = false := decide_eq_false (by omega)
                generalize cmpR y x = cc at *
                have hE := eq_self y
                have C5 := hid (at_new w5 #[.string y.key, .int .u64 y.s.p, .int .u32 y.s.l, .int .u8 y.s.n, .int .u8 y.kind, .int .u32 y.flags, .int .u64 y.exp, .string y.body] 27)
                have A5 := hid (at_alloc (at_kept ZA.out KW.out) (.cells #[.string y.key, .int .u64 y.s.p, .int .u32 y.s.l, .int .u8 y.s.n, .int .u8 y.kind, .int .u32 y.flags, .int .u64 y.exp, .string y.body] 27))
                have K5 := hid (kept_alloc KW.out (.cells #[.string y.key, .int .u64 y.s.p, .int .u32 y.s.l, .int .u8 y.s.n, .int .u8 y.kind, .int .u32 y.flags, .int .u64 y.exp, .string y.body] 27))
                have hlg := Nat.lt_of_lt_of_le Hgl.out (kept_trans KK.out KW.out).2
                clear hc0
                go_wp2_with fail
                clear c0 c1 c2 c3 c4 c5 c6 c7 hlg
                generalize w5.alloc (.cells #[.string y.key, .int .u64 y.s.p, .int .u32 y.s.l, .int .u8 y.s.n, .int .u8 y.kind, .int .u32 y.flags, .int .u64 y.exp, .string y.body] 27) = w6 at *
                generalize w5.heap.size = bC at *
                have CC := C5.out
                have AA := A5.out
                have k0 : Kept w6 w6.drew := kept_refl w6
                refine wp_region_noPanic ?_
                refine wp_region_held_drew (S := (fun w' => (w'.cell? ⟨bC, 0, none⟩ = some (.string y.key) ∧ w'.cell? ⟨bC, 1, none⟩ = some (.int .u64 y.s.p) ∧ w'.cell? ⟨bC, 2, none⟩ = some (.int .u32 y.s.l) ∧ w'.cell? ⟨bC, 3, none⟩ = some (.int .u8 y.s.n) ∧ w'.cell? ⟨bC, 4, none⟩ = some (.int .u8 y.kind) ∧ w'.cell? ⟨bC, 5, none⟩ = some (.int .u32 y.flags) ∧ w'.cell? ⟨bC, 6, none⟩ = some (.int .u64 y.exp) ∧ w'.cell? ⟨bC, 7, none⟩ = some (.string y.body)) ∧ (w'.cell? ⟨bA, 0, none⟩ = some (.string x.key) ∧ w'.cell? ⟨bA, 1, none⟩ = some (.int .u64 x.s.p) ∧ w'.cell? ⟨bA, 2, none⟩ = some (.int .u32 x.s.l) ∧ w'.cell? ⟨bA, 3, none⟩ = some (.int .u8 x.s.n) ∧ w'.cell? ⟨bA, 4, none⟩ = some (.int .u8 x.kind) ∧ w'.cell? ⟨bA, 5, none⟩ = some (.int .u32 x.flags) ∧ w'.cell? ⟨bA, 6, none⟩ = some (.int .u64 x.exp) ∧ w'.cell? ⟨bA, 7, none⟩ = some (.string x.body)))) (by kernel_rfl) (held16 CC AA (by assumption)) (fun hHeld => ?_)
                refine wpAnyH_take (i := 0) (v := .agg #[.string y.key, .int .u64 y.s.p, .int .u32 y.s.l, .int .u8 y.s.n, .int .u8 y.kind, .int .u32 y.flags, .int .u64 y.exp, .string y.body]) rfl (by kernel_rfl) (by kernel_rfl) (by kernel_rfl) (fun _ _ _ h => h) (Or.inl ⟨by rfl, fun w hSw => by (try dsimp only at hSw); go_simp⟩) (by assumption) ?_
                try simp only [List.getElem_toArray, List.getElem_cons_zero, List.getElem_cons_succ, Act.put, List.setIfInBounds_toArray, List.set_cons_zero, List.set_cons_succ]
                refine wpAnyH_take (i := 1) (v := .agg #[.string x.key, .int .u64 x.s.p, .int .u32 x.s.l, .int .u8 x.s.n, .int .u8 x.kind, .int .u32 x.flags, .int .u64 x.exp, .string x.body]) rfl (by kernel_rfl) (by kernel_rfl) (by kernel_rfl) (fun _ _ _ h => h) (Or.inl ⟨by rfl, fun w hSw => by (try dsimp only at hSw); go_simp⟩) (by assumption) ?_
                try simp only [List.getElem_toArray, List.getElem_cons_zero, List.getElem_cons_succ, Act.put, List.setIfInBounds_toArray, List.set_cons_zero, List.set_cons_succ]
                refine wpAnyH_ready (rs := [2]) (by kernel_rfl) (by simp) ?_
                refine AllReadyH.cons (i := 2) rfl (fun K hK => ?_) AllReadyH.nil
                go_simp
                refine (hC _).mono ?_
                rintro e w3 ⟨rfl, h3⟩
                replace k0 := kept_trans k0 h3
                clear h3
                clear hHeld
                show K _ _
                refine hK.out _ _ (held16 CC AA (by assumption)) (fun hHeld => ?_)
                clear hK K
                try simp only [List.getElem_toArray, List.getElem_cons_zero, List.getElem_cons_succ, Act.put, List.setIfInBounds_toArray, List.set_cons_zero, List.set_cons_succ]
                refine wpAnyH_take (i := 3) (v := .bool false) rfl (by kernel_rfl) (by kernel_rfl) (by kernel_rfl) (fun _ _ _ h => h) (Or.inl ⟨by rfl, fun w hSw => by (try dsimp only at hSw); go_simp⟩) (by assumption) ?_
                try simp only [List.getElem_toArray, List.getElem_cons_zero, List.getElem_cons_succ, Act.put, List.setIfInBounds_toArray, List.set_cons_zero, List.set_cons_succ]
                refine wpAnyH_take (i := 4) (v := .bool false) rfl (by kernel_rfl) (by kernel_rfl) (by kernel_rfl) (fun _ _ _ h => h) (Or.inl ⟨by rfl, fun w hSw => by (try dsimp only at hSw); go_simp⟩) (by assumption) ?_
                try simp only [List.getElem_toArray, List.getElem_cons_zero, List.getElem_cons_succ, Act.put, List.setIfInBounds_toArray, List.set_cons_zero, List.set_cons_succ]
                refine wpAnyH_take (i := 5) (v := .agg #[.string y.key, .int .u64 y.s.p, .int .u32 y.s.l, .int .u8 y.s.n, .int .u8 y.kind, .int .u32 y.flags, .int .u64 y.exp, .string y.body]) rfl (by kernel_rfl) (by kernel_rfl) (by kernel_rfl) (fun _ _ _ h => h) (Or.inl ⟨by rfl, fun w hSw => by (try dsimp only at hSw); go_simp⟩) (by assumption) ?_
                try simp only [List.getElem_toArray, List.getElem_cons_zero, List.getElem_cons_succ, Act.put, List.setIfInBounds_toArray, List.set_cons_zero, List.set_cons_succ]
                refine wpAnyH_take (i := 6) (v := .agg #[.string y.key, .int .u64 y.s.p, .int .u32 y.s.l, .int .u8 y.s.n, .int .u8 y.kind, .int .u32 y.flags, .int .u64 y.exp, .string y.body]) rfl (by kernel_rfl) (by kernel_rfl) (by kernel_rfl) (fun _ _ _ h => h) (Or.inl ⟨by rfl, fun w hSw => by (try dsimp only at hSw); go_simp⟩) (by assumption) ?_
                try simp only [List.getElem_toArray, List.getElem_cons_zero, List.getElem_cons_succ, Act.put, List.setIfInBounds_toArray, List.set_cons_zero, List.set_cons_succ]
                refine wpAnyH_take (i := 8) (v := .agg #[.string y.key, .int .u64 y.s.p, .int .u32 y.s.l, .int .u8 y.s.n, .int .u8 y.kind, .int .u32 y.flags, .int .u64 y.exp, .string y.body]) rfl (by kernel_rfl) (by kernel_rfl) (by kernel_rfl) (fun _ _ _ h => h) (Or.inl ⟨by rfl, fun w hSw => by (try dsimp only at hSw); go_simp⟩) (by assumption) ?_
                try simp only [List.getElem_toArray, List.getElem_cons_zero, List.getElem_cons_succ, Act.put, List.setIfInBounds_toArray, List.set_cons_zero, List.set_cons_succ]
                refine wpAnyH_ready (rs := [7]) (by kernel_rfl) (by simp) ?_
                refine AllReadyH.cons (i := 7) rfl (fun K hK => ?_) AllReadyH.nil
                go_simp
                refine (hJ _).mono ?_
                rintro e w3 ⟨rfl, h3⟩
                replace k0 := kept_trans k0 h3
                clear h3
                clear hHeld
                show K _ _
                refine hK.out _ _ (held16 CC AA (by assumption)) (fun hHeld => ?_)
                clear hK K
                try simp only [List.getElem_toArray, List.getElem_cons_zero, List.getElem_cons_succ, Act.put, List.setIfInBounds_toArray, List.set_cons_zero, List.set_cons_succ]
                refine wpAnyH_take (i := 9) (v := .bool false) rfl (by kernel_rfl) (by kernel_rfl) (by kernel_rfl) (fun _ _ _ h => h) (Or.inl ⟨by rfl, fun w hSw => by (try dsimp only at hSw); go_simp⟩) (by assumption) ?_
                try simp only [List.getElem_toArray, List.getElem_cons_zero, List.getElem_cons_succ, Act.put, List.setIfInBounds_toArray, List.set_cons_zero, List.set_cons_succ]
                refine wpAnyH_take (i := 10) (v := .bool false) rfl (by kernel_rfl) (by kernel_rfl) (by kernel_rfl) (fun _ _ _ h => h) (Or.inl ⟨by rfl, fun w hSw => by (try dsimp only at hSw); go_simp⟩) (by assumption) ?_
                try simp only [List.getElem_toArray, List.getElem_cons_zero, List.getElem_cons_succ, Act.put, List.setIfInBounds_toArray, List.set_cons_zero, List.set_cons_succ]
                refine wpAnyH_done (by kernel_rfl) ?_ _
                refine NoPanic.normal ?_
                clear hHeld
                have K6 := hid (kept_trans K5.out k0)
                clear k0 CC AA
                go_wp2_with fail
                go_roundw
                case rel => exact ⟨j + 1, by omega, by go_num, K6⟩
                case measure => simp [intOf]; omega
              · obtain ⟨c0, c1, c2, c3, c4, c5, c6, c7⟩ := at_cells8' (at_kept ZA.out KW.out)
                have KF := kept_trans (kept_trans HK.out KK.out) KW.out
                have AA := at_kept ZA.out KW.out
                have BB := at_kept ZB3.out KW.out
                have hE := eq_self x
                clear c0 c1 c2 c3 c4 c5 c6 c7
                go_wp2_with fail
                refine (fixed_any _).mono ?_
                rintro e w7 ⟨rfl, k7⟩
                replace KF := kept_trans KF k7
                obtain ⟨c0, c1, c2, c3, c4, c5, c6, c7⟩ := at_cells8' (at_kept AA k7)
                obtain ⟨d0, d1, d2, d3, d4, d5, d6, d7⟩ := at_cells8' (at_kept BB k7)
                clear AA BB k7
                go_wp2_with fail
                go_ret
                exact ⟨rfl, KF⟩
      refine AllReadyH.cons (i := 8) rfl (fun K hK => ?_) AllReadyH.nil
      have ZbB : At (wq.alloc (.cells #[.string ⟨#[]⟩, .int .u64 0, .int .u32 0, .int .u8 0, .int .u8 0, .int .u32 0, .int .u64 0, .string ⟨#[]⟩] 27)).drew wq.heap.size #[.string ⟨#[]⟩, .int .u64 0, .int .u32 0, .int .u8 0, .int .u8 0, .int .u32 0, .int .u64 0, .string ⟨#[]⟩] 27 := at_new wq _ _
      have kk2 : Kept wq (wq.alloc (.cells #[.string ⟨#[]⟩, .int .u64 0, .int .u32 0, .int .u8 0, .int .u8 0, .int .u32 0, .int .u64 0, .string ⟨#[]⟩] 27)).drew := kept_alloc kk _
      have KsbB : Hid (∀ u', Kept wq u' → ∀ a0 a1 a2 a3 a4 a5 a6 a7, Kept wq (set8 u' wq.heap.size a0 a1 a2 a3 a4 a5 a6 a7)) := fun u' h a0 a1 a2 a3 a4 a5 a6 a7 => kept_set8 h kk.2 a0 a1 a2 a3 a4 a5 a6 a7
      clear kk
      go_simp
      have kk := kk2
      clear kk2 hHeld
      show K _ (wq.alloc (.cells #[.string ⟨#[]⟩, .int .u64 0, .int .u32 0, .int .u8 0, .int .u8 0, .int .u32 0, .int .u64 0, .string ⟨#[]⟩] 27)).drew
      generalize (wq.alloc (.cells #[.string ⟨#[]⟩, .int .u64 0, .int .u32 0, .int .u8 0, .int .u8 0, .int .u32 0, .int .u64 0, .string ⟨#[]⟩] 27)).drew = u1 at *
      generalize hbb : wq.heap.size = bB at ZbB KsbB ⊢
      clear hbb
      refine hK.out _ _ (⟨li0.out _ kk, lin.out _ kk⟩) (fun hHeld => ?_)
      clear hK K
      try simp only [List.getElem_toArray, List.getElem_cons_zero, List.getElem_cons_succ, Act.put, List.setIfInBounds_toArray, List.set_cons_zero, List.set_cons_succ]
      refine wpAnyH_ready (rs := [7]) (by kernel_rfl) (by simp) ?_
      refine AllReadyH.cons (i := 7) rfl (fun K hK => ?_) AllReadyH.nil
      have ZbA : At (u1.alloc (.cells #[.string ⟨#[]⟩, .int .u64 0, .int .u32 0, .int .u8 0, .int .u8 0, .int .u32 0, .int .u64 0, .string ⟨#[]⟩] 27)) u1.heap.size #[.string ⟨#[]⟩, .int .u64 0, .int .u32 0, .int .u8 0, .int .u8 0, .int .u32 0, .int .u64 0, .string ⟨#[]⟩] 27 := at_new u1 _ _
      have kk2 : Kept wq (u1.alloc (.cells #[.string ⟨#[]⟩, .int .u64 0, .int .u32 0, .int .u8 0, .int .u8 0, .int .u32 0, .int .u64 0, .string ⟨#[]⟩] 27)) := kept_alloc kk _
      have KsbA : Hid (∀ u', Kept wq u' → ∀ a0 a1 a2 a3 a4 a5 a6 a7, Kept wq (set8 u' u1.heap.size a0 a1 a2 a3 a4 a5 a6 a7)) := fun u' h a0 a1 a2 a3 a4 a5 a6 a7 => kept_set8 h kk.2 a0 a1 a2 a3 a4 a5 a6 a7
      have nAB : bB ≠ u1.heap.size := Nat.ne_of_lt (at_lt ZbB)
      replace ZbB : At (u1.alloc (.cells #[.string ⟨#[]⟩, .int .u64 0, .int .u32 0, .int .u8 0, .int .u8 0, .int .u32 0, .int .u64 0, .string ⟨#[]⟩] 27)) bB #[.string ⟨#[]⟩, .int .u64 0, .int .u32 0, .int .u8 0, .int .u8 0, .int .u32 0, .int .u64 0, .string ⟨#[]⟩] 27 := at_alloc ZbB _
      clear kk
      go_simp
      have kk := kk2
      clear kk2 hHeld
      show K _ (u1.alloc (.cells #[.string ⟨#[]⟩, .int .u64 0, .int .u32 0, .int .u8 0, .int .u8 0, .int .u32 0, .int .u64 0, .string ⟨#[]⟩] 27))
      generalize (u1.alloc (.cells #[.string ⟨#[]⟩, .int .u64 0, .int .u32 0, .int .u8 0, .int .u8 0, .int .u32 0, .int .u64 0, .string ⟨#[]⟩] 27)) = u2 at *
      generalize u1.heap.size = bA at *
      refine hK.out _ _ (⟨li0.out _ kk, lin.out _ kk⟩) (fun hHeld => ?_)
      clear hK K
      try simp only [List.getElem_toArray, List.getElem_cons_zero, List.getElem_cons_succ, Act.put, List.setIfInBounds_toArray, List.set_cons_zero, List.set_cons_succ]
      refine wpAnyH_ready (rs := [9]) (by kernel_rfl) (by simp) ?_
      refine AllReadyH.cons (i := 9) rfl (fun K hK => ?_) AllReadyH.nil
      obtain ⟨d0, d1, d2, d3, d4, d5, d6, d7, df⟩ := at_cells8 ZbA
      go_simp
      clear d0 d1 d2 d3 d4 d5 d6 d7 df hHeld
      show K _ (set8 u2 bA (.string a0.key) (.int .u64 a0.s.p) (.int .u32 a0.s.l) (.int .u8 a0.s.n) (.int .u8 a0.kind) (.int .u32 a0.flags) (.int .u64 a0.exp) (.string a0.body))
      replace ZbA := at_set8 ZbA (.string a0.key) (.int .u64 a0.s.p) (.int .u32 a0.s.l) (.int .u8 a0.s.n) (.int .u8 a0.kind) (.int .u32 a0.flags) (.int .u64 a0.exp) (.string a0.body)
      replace ZbB := at_other8 ZbB nAB (.string a0.key) (.int .u64 a0.s.p) (.int .u32 a0.s.l) (.int .u8 a0.s.n) (.int .u8 a0.kind) (.int .u32 a0.flags) (.int .u64 a0.exp) (.string a0.body)
      replace kk := KsbA.out _ kk (.string a0.key) (.int .u64 a0.s.p) (.int .u32 a0.s.l) (.int .u8 a0.s.n) (.int .u8 a0.kind) (.int .u32 a0.flags) (.int .u64 a0.exp) (.string a0.body)
      generalize set8 u2 bA (.string a0.key) (.int .u64 a0.s.p) (.int .u32 a0.s.l) (.int .u8 a0.s.n) (.int .u8 a0.kind) (.int .u32 a0.flags) (.int .u64 a0.exp) (.string a0.body) = u3 at *
      refine hK.out _ _ (⟨li0.out _ kk, lin.out _ kk⟩) (fun hHeld => ?_)
      clear hK K
      try simp only [List.getElem_toArray, List.getElem_cons_zero, List.getElem_cons_succ, Act.put, List.setIfInBounds_toArray, List.set_cons_zero, List.set_cons_succ]
      refine wpAnyH_ready (rs := [10]) (by kernel_rfl) (by simp) ?_
      refine AllReadyH.cons (i := 10) rfl (fun K hK => ?_) AllReadyH.nil
      obtain ⟨d0, d1, d2, d3, d4, d5, d6, d7, df⟩ := at_cells8 ZbB
      go_simp
      clear d0 d1 d2 d3 d4 d5 d6 d7 df hHeld
      show K _ (set8 u3 bB (.string b0.key) (.int .u64 b0.s.p) (.int .u32 b0.s.l) (.int .u8 b0.s.n) (.int .u8 b0.kind) (.int .u32 b0.flags) (.int .u64 b0.exp) (.string b0.body))
      replace ZbB := at_set8 ZbB (.string b0.key) (.int .u64 b0.s.p) (.int .u32 b0.s.l) (.int .u8 b0.s.n) (.int .u8 b0.kind) (.int .u32 b0.flags) (.int .u64 b0.exp) (.string b0.body)
      replace ZbA := at_other8 ZbA (Ne.symm nAB) (.string b0.key) (.int .u64 b0.s.p) (.int .u32 b0.s.l) (.int .u8 b0.s.n) (.int .u8 b0.kind) (.int .u32 b0.flags) (.int .u64 b0.exp) (.string b0.body)
      replace kk := KsbB.out _ kk (.string b0.key) (.int .u64 b0.s.p) (.int .u32 b0.s.l) (.int .u8 b0.s.n) (.int .u8 b0.kind) (.int .u32 b0.flags) (.int .u64 b0.exp) (.string b0.body)
      generalize set8 u3 bB (.string b0.key) (.int .u64 b0.s.p) (.int .u32 b0.s.l) (.int .u8 b0.s.n) (.int .u8 b0.kind) (.int .u32 b0.flags) (.int .u64 b0.exp) (.string b0.body) = u4 at *
      refine hK.out _ _ (⟨li0.out _ kk, lin.out _ kk⟩) (fun hHeld => ?_)
      clear hK K
      try simp only [List.getElem_toArray, List.getElem_cons_zero, List.getElem_cons_succ, Act.put, List.setIfInBounds_toArray, List.set_cons_zero, List.set_cons_succ]
      refine wpAnyH_done (by kernel_rfl) ?_ _
      refine NoPanic.normal ?_
      clear hHeld li0 lin
      have ZA2 : Hid (At u4 bA #[.string (fa O 0).key, .int .u64 (fa O 0).s.p, .int .u32 (fa O 0).s.l, .int .u8 (fa O 0).s.n, .int .u8 (fa O 0).kind, .int .u32 (fa O 0).flags, .int .u64 (fa O 0).exp, .string (fa O 0).body] 27) := by have h := ZbA; rw [Ha0.out] at h; exact h
      have ZB2 : Hid (At u4 bB #[.string (fb O nn k 0).key, .int .u64 (fb O nn k 0).s.p, .int .u32 (fb O nn k 0).s.l, .int .u8 (fb O nn k 0).s.n, .int .u8 (fb O nn k 0).kind, .int .u32 (fb O nn k 0).flags, .int .u64 (fb O nn k 0).exp, .string (fb O nn k 0).body] 27) := by have h := ZbB; rw [Hb0.out] at h; exact h
      have KK2 := hid kk
      have NAB : Hid (bA ≠ bB) := Ne.symm nAB
      clear ZbA ZbB kk nAB Ha0 Hb0
      go_wp2_with fail
      go_loopw [13, 61] (fun _ jv w2 => ∃ i : Nat, i ≤ k ∧ jv = .int .i64 i ∧ Hid (Kept wq w2) ∧ Hid (At w2 bA #[.string (fa O i).key, .int .u64 (fa O i).s.p, .int .u32 (fa O i).s.l, .int .u8 (fa O i).s.n, .int .u8 (fa O i).kind, .int .u32 (fa O i).flags, .int .u64 (fa O i).exp, .string (fa O i).body] 27) ∧ Hid (At w2 bB #[.string (fb O nn k i).key, .int .u64 (fb O nn k i).s.p, .int .u32 (fb O nn k i).s.l, .int .u8 (fb O nn k i).s.n, .int .u8 (fb O nn k i).kind, .int .u32 (fb O nn k i).flags, .int .u64 (fb O nn k i).exp, .string (fb O nn k i).body] 27)) (fun _ jv _ => k - (intOf jv).toNat)
      case atStart => exact ⟨0, Nat.zero_le _, rfl, KK2, ZA2, ZB2⟩
      case round =>
        obtain ⟨i, hi, rfl, KK, ZA, ZB⟩ := hrel
        obtain ⟨w2, hw2⟩ : ∃ x, x = wr := ⟨_, rfl⟩
        subst hw2
        by_cases hlt : i < k
        · obtain ⟨mm, hmm⟩ : ∃ m, m = (nn + k - i) % k := ⟨_, rfl⟩
          have hmk : mm < k := by rw [hmm]; exact Nat.mod_lt _ hpos
          have hmi : ((nn : Int) + (k : Int) - (i : Int)) % (k : Int) = (mm : Int) := mod_cast' nn k i mm (by omega) hmm
          have hJ1 := Join_any (fa O i) (O i) (joins_sizes HSz.out (fa_mem O k hpos i hi)) (HSz.out i hlt)
          have hJ2 := Join_any (O mm) (fb O nn k i) (HSz.out mm hmk) (joins_sizes HSz.out (fb_mem O nn k hnk i hi))
          have HA1 : Hid (fa O (i + 1) = joinR (fa O i) (O i)) := rfl
          have HB1 : Hid (fb O nn k (i + 1) = joinR (O mm) (fb O nn k i)) := by show _ = _; rw [hmm]; rfl
          have LI : Hid (∀ u, Kept wq u → Lies u g (i * 8) (O i)) := fun u h => lies_kept (HLi.out i hlt) Hgl.out h
          have LM : Hid (∀ u, Kept wq u → Lies u g (mm * 8) (O mm)) := fun u h => lies_kept (HLi.out mm hmk) Hgl.out h
          have hw1 : IntKind.i64.wrap ((nn : Int) + (k : Int)) = (nn : Int) + (k : Int) := by rw [IntKind.wrap_i64]; omega
          have hw2 : IntKind.i64.wrap ((nn : Int) + (k : Int) - (i : Int)) = (nn : Int) + (k : Int) - (i : Int) := by rw [IntKind.wrap_i64]; omega
          have hmt : ((nn : Int) + (k : Int) - (i : Int)).tmod (k : Int) = (mm : Int) := by rw [Int.tmod_eq_emod_of_nonneg (by omega)]; exact hmi
          clear hmm
          generalize fa O i = x at *
          generalize fb O nn k i = z at *
          generalize O i = y at *
          generalize O mm = t at *
          generalize joinR x y = x1 at *
          generalize joinR t z = z1 at *
          go_wp2_with fail
          have kk : Kept wq w2.drew := kept_drew KK.out
          have hZA : At w2.drew bA #[.string x.key, .int .u64 x.s.p, .int .u32 x.s.l, .int .u8 x.s.n, .int .u8 x.kind, .int .u32 x.flags, .int .u64 x.exp, .string x.body] 27 := ZA.out
          have hZB : At w2.drew bB #[.string z.key, .int .u64 z.s.p, .int .u32 z.s.l, .int .u8 z.s.n, .int .u8 z.kind, .int .u32 z.flags, .int .u64 z.exp, .string z.body] 27 := ZB.out
          clear KK ZA ZB
          refine wp_region_noPanic ?_
          refine wp_region_held_drew (S := (fun w' => w'.cell? ⟨g, i * 8, none⟩ = some (.string y.key) ∧ w'.cell? ⟨g, i * 8 + 1, none⟩ = some (.int .u64 y.s.p) ∧ w'.cell? ⟨g, i * 8 + 2, none⟩ = some (.int .u32 y.s.l) ∧ w'.cell? ⟨g, i * 8 + 3, none⟩ = some (.int .u8 y.s.n) ∧ w'.cell? ⟨g, i * 8 + 4, none⟩ = some (.int .u8 y.kind) ∧ w'.cell? ⟨g, i * 8 + 5, none⟩ = some (.int .u32 y.flags) ∧ w'.cell? ⟨g, i * 8 + 6, none⟩ = some (.int .u64 y.exp) ∧ w'.cell? ⟨g, i * 8 + 7, none⟩ = some (.string y.body))) (by kernel_rfl) (LI.out _ kk) (fun hHeld => ?_)
          refine wpAnyH_take (i := 1) (v := .slice (some ⟨g, 0, none⟩) k cap') rfl (by kernel_rfl) (by kernel_rfl) (by kernel_rfl) (fun _ _ _ h => h) (Or.inl ⟨by rfl, fun w hSw => by (try dsimp only at hSw); go_simp⟩) (by assumption) ?_
          try simp only [List.getElem_toArray, List.getElem_cons_zero, List.getElem_cons_succ, Act.put, List.setIfInBounds_toArray, List.set_cons_zero, List.set_cons_succ]
          refine wpAnyH_take (i := 2) (v := .int .i64 (i : Int)) rfl (by kernel_rfl) (by kernel_rfl) (by kernel_rfl) (fun _ _ _ h => h) (Or.inl ⟨by rfl, fun w hSw => by (try dsimp only at hSw); go_simp⟩) (by assumption) ?_
          try simp only [List.getElem_toArray, List.getElem_cons_zero, List.getElem_cons_succ, Act.put, List.setIfInBounds_toArray, List.set_cons_zero, List.set_cons_succ]
          refine wpAnyH_take (i := 3) (v := .pointer (some ⟨g, i * 8, none⟩)) rfl (by kernel_rfl) (by kernel_rfl) (by kernel_rfl) (fun _ _ _ h => h) (Or.inl ⟨by rfl, fun w hSw => by (try dsimp only at hSw); go_simp⟩) (by assumption) ?_
          try simp only [List.getElem_toArray, List.getElem_cons_zero, List.getElem_cons_succ, Act.put, List.setIfInBounds_toArray, List.set_cons_zero, List.set_cons_succ]
          refine wpAnyH_take (i := 4) (v := .agg #[.string y.key, .int .u64 y.s.p, .int .u32 y.s.l, .int .u8 y.s.n, .int .u8 y.kind, .int .u32 y.flags, .int .u64 y.exp, .string y.body]) rfl (by kernel_rfl) (by kernel_rfl) (by kernel_rfl) (fun _ _ _ h => h) (Or.inl ⟨by rfl, fun w hSw => by (try dsimp only at hSw); go_simp⟩) (by assumption) ?_
          try simp only [List.getElem_toArray, List.getElem_cons_zero, List.getElem_cons_succ, Act.put, List.setIfInBounds_toArray, List.set_cons_zero, List.set_cons_succ]
          refine wpAnyH_ready (rs := [0]) (by kernel_rfl) (by simp) ?_
          refine AllReadyH.cons (i := 0) rfl (fun K hK => ?_) AllReadyH.nil
          obtain ⟨d0, d1, d2, d3, d4, d5, d6, d7, df⟩ := at_cells8 hZA
          go_simp
          clear d0 d1 d2 d3 d4 d5 d6 d7 df
          clear hHeld
          show K _ _
          refine hK.out _ _ (LI.out _ kk) (fun hHeld => ?_)
          clear hK K
          try simp only [List.getElem_toArray, List.getElem_cons_zero, List.getElem_cons_succ, Act.put, List.setIfInBounds_toArray, List.set_cons_zero, List.set_cons_succ]
          refine wpAnyH_ready (rs := [5]) (by kernel_rfl) (by simp) ?_
          refine AllReadyH.cons (i := 5) rfl (fun K hK => ?_) AllReadyH.nil
          go_simp
          refine (hJ1 _).mono ?_
          rintro e w3 ⟨rfl, h3⟩
          replace kk := kept_trans kk h3
          replace hZA := at_kept hZA h3
          replace hZB := at_kept hZB h3
          clear h3
          clear hHeld
          show K _ _
          refine hK.out _ _ (LI.out _ kk) (fun hHeld => ?_)
          clear hK K
          try simp only [List.getElem_toArray, List.getElem_cons_zero, List.getElem_cons_succ, Act.put, List.setIfInBounds_toArray, List.set_cons_zero, List.set_cons_succ]
          refine wpAnyH_ready (rs := [6]) (by kernel_rfl) (by simp) ?_
          refine AllReadyH.cons (i := 6) rfl (fun K hK => ?_) AllReadyH.nil
          obtain ⟨d0, d1, d2, d3, d4, d5, d6, d7, df⟩ := at_cells8 hZA
          go_simp
          clear d0 d1 d2 d3 d4 d5 d6 d7 df
          show K _ (set8 w3 bA (.string x1.key) (.int .u64 x1.s.p) (.int .u32 x1.s.l) (.int .u8 x1.s.n) (.int .u8 x1.kind) (.int .u32 x1.flags) (.int .u64 x1.exp) (.string x1.body))
          replace hZA := at_set8 hZA (.string x1.key) (.int .u64 x1.s.p) (.int .u32 x1.s.l) (.int .u8 x1.s.n) (.int .u8 x1.kind) (.int .u32 x1.flags) (.int .u64 x1.exp) (.string x1.body)
          replace hZB := at_other8 hZB (Ne.symm NAB.out) (.string x1.key) (.int .u64 x1.s.p) (.int .u32 x1.s.l) (.int .u8 x1.s.n) (.int .u8 x1.kind) (.int .u32 x1.flags) (.int .u64 x1.exp) (.string x1.body)
          replace kk := KsbA.out _ kk (.string x1.key) (.int .u64 x1.s.p) (.int .u32 x1.s.l) (.int .u8 x1.s.n) (.int .u8 x1.kind) (.int .u32 x1.flags) (.int .u64 x1.exp) (.string x1.body)
          generalize set8 w3 bA (.string x1.key) (.int .u64 x1.s.p) (.int .u32 x1.s.l) (.int .u8 x1.s.n) (.int .u8 x1.kind) (.int .u32 x1.flags) (.int .u64 x1.exp) (.string x1.body) = u5 at *
          clear hHeld
          show K _ _
          refine hK.out _ _ (LI.out _ kk) (fun hHeld => ?_)
          clear hK K
          try simp only [List.getElem_toArray, List.getElem_cons_zero, List.getElem_cons_succ, Act.put, List.setIfInBounds_toArray, List.set_cons_zero, List.set_cons_succ]
          refine wpAnyH_done (by kernel_rfl) ?_ _
          refine NoPanic.normal ?_
          clear hHeld
          go_wp2_with fail
          replace kk : Kept wq u5.drew := kept_drew kk
          replace hZA := at_drew hZA
          replace hZB := at_drew hZB
          refine wp_region_noPanic ?_
          refine wp_region_held_drew (S := (fun w' => w'.cell? ⟨g, mm * 8, none⟩ = some (.string t.key) ∧ w'.cell? ⟨g, mm * 8 + 1, none⟩ = some (.int .u64 t.s.p) ∧ w'.cell? ⟨g, mm * 8 + 2, none⟩ = some (.int .u32 t.s.l) ∧ w'.cell? ⟨g, mm * 8 + 3, none⟩ = some (.int .u8 t.s.n) ∧ w'.cell? ⟨g, mm * 8 + 4, none⟩ = some (.int .u8 t.kind) ∧ w'.cell? ⟨g, mm * 8 + 5, none⟩ = some (.int .u32 t.flags) ∧ w'.cell? ⟨g, mm * 8 + 6, none⟩ = some (.int .u64 t.exp) ∧ w'.cell? ⟨g, mm * 8 + 7, none⟩ = some (.string t.body))) (by kernel_rfl) (LM.out _ kk) (fun hHeld => ?_)
          refine wpAnyH_take (i := 0) (v := .slice (some ⟨g, 0, none⟩) k cap') rfl (by kernel_rfl) (by kernel_rfl) (by kernel_rfl) (fun _ _ _ h => h) (Or.inl ⟨by rfl, fun w hSw => by (try dsimp only at hSw); go_simp⟩) (by assumption) ?_
          try simp only [List.getElem_toArray, List.getElem_cons_zero, List.getElem_cons_succ, Act.put, List.setIfInBounds_toArray, List.set_cons_zero, List.set_cons_succ]
          refine wpAnyH_take (i := 1) (v := .int .i64 (nn : Int)) rfl (by kernel_rfl) (by kernel_rfl) (by kernel_rfl) (fun _ _ _ h => h) (Or.inl ⟨by rfl, fun w hSw => by (try dsimp only at hSw); go_simp⟩) (by assumption) ?_
          try simp only [List.getElem_toArray, List.getElem_cons_zero, List.getElem_cons_succ, Act.put, List.setIfInBounds_toArray, List.set_cons_zero, List.set_cons_succ]
          refine wpAnyH_take (i := 2) (v := .slice (some ⟨g, 0, none⟩) k cap') rfl (by kernel_rfl) (by kernel_rfl) (by kernel_rfl) (fun _ _ _ h => h) (Or.inl ⟨by rfl, fun w hSw => by (try dsimp only at hSw); go_simp⟩) (by assumption) ?_
          try simp only [List.getElem_toArray, List.getElem_cons_zero, List.getElem_cons_succ, Act.put, List.setIfInBounds_toArray, List.set_cons_zero, List.set_cons_succ]
          refine wpAnyH_take (i := 3) (v := .int .i64 (k : Int)) rfl (by kernel_rfl) (by kernel_rfl) (by kernel_rfl) (fun _ _ _ h => h) (Or.inl ⟨by rfl, fun w hSw => by (try dsimp only at hSw); go_simp⟩) (by assumption) ?_
          try simp only [List.getElem_toArray, List.getElem_cons_zero, List.getElem_cons_succ, Act.put, List.setIfInBounds_toArray, List.set_cons_zero, List.set_cons_succ]
          refine wpAnyH_take (i := 4) (v := .int .i64 ((nn : Int) + (k : Int))) rfl (by kernel_rfl) (by kernel_rfl) (by kernel_rfl) (fun _ _ _ h => h) (Or.inl ⟨by rfl, fun w hSw => by (try dsimp only at hSw); go_simp⟩) (by assumption) ?_
          try simp only [List.getElem_toArray, List.getElem_cons_zero, List.getElem_cons_succ, Act.put, List.setIfInBounds_toArray, List.set_cons_zero, List.set_cons_succ]
          refine wpAnyH_take (i := 5) (v := .int .i64 (i : Int)) rfl (by kernel_rfl) (by kernel_rfl) (by kernel_rfl) (fun _ _ _ h => h) (Or.inl ⟨by rfl, fun w hSw => by (try dsimp only at hSw); go_simp⟩) (by assumption) ?_
          try simp only [List.getElem_toArray, List.getElem_cons_zero, List.getElem_cons_succ, Act.put, List.setIfInBounds_toArray, List.set_cons_zero, List.set_cons_succ]
          refine wpAnyH_take (i := 6) (v := .int .i64 ((nn : Int) + (k : Int) - (i : Int))) rfl (by kernel_rfl) (by kernel_rfl) (by kernel_rfl) (fun _ _ _ h => h) (Or.inl ⟨by rfl, fun w hSw => by (try dsimp only at hSw); go_simp⟩) (by assumption) ?_
          try simp only [List.getElem_toArray, List.getElem_cons_zero, List.getElem_cons_succ, Act.put, List.setIfInBounds_toArray, List.set_cons_zero, List.set_cons_succ]
          refine wpAnyH_take (i := 7) (v := .slice (some ⟨g, 0, none⟩) k cap') rfl (by kernel_rfl) (by kernel_rfl) (by kernel_rfl) (fun _ _ _ h => h) (Or.inl ⟨by rfl, fun w hSw => by (try dsimp only at hSw); go_simp⟩) (by assumption) ?_
          try simp only [List.getElem_toArray, List.getElem_cons_zero, List.getElem_cons_succ, Act.put, List.setIfInBounds_toArray, List.set_cons_zero, List.set_cons_succ]
          refine wpAnyH_take (i := 8) (v := .int .i64 (k : Int)) rfl (by kernel_rfl) (by kernel_rfl) (by kernel_rfl) (fun _ _ _ h => h) (Or.inl ⟨by rfl, fun w hSw => by (try dsimp only at hSw); go_simp⟩) (by assumption) ?_
          try simp only [List.getElem_toArray, List.getElem_cons_zero, List.getElem_cons_succ, Act.put, List.setIfInBounds_toArray, List.set_cons_zero, List.set_cons_succ]
          refine wpAnyH_take (i := 9) (v := .int .i64 (mm : Int)) rfl (by kernel_rfl) (by kernel_rfl) (by kernel_rfl) (fun _ _ _ h => h) (Or.inl ⟨by rfl, fun w hSw => by (try dsimp only at hSw); go_simp⟩) (by assumption) ?_
          try simp only [List.getElem_toArray, List.getElem_cons_zero, List.getElem_cons_succ, Act.put, List.setIfInBounds_toArray, List.set_cons_zero, List.set_cons_succ]
          refine wpAnyH_take (i := 10) (v := .pointer (some ⟨g, mm * 8, none⟩)) rfl (by kernel_rfl) (by kernel_rfl) (by kernel_rfl) (fun _ _ _ h => h) (Or.inl ⟨by rfl, fun w hSw => by (try dsimp only at hSw); go_simp⟩) (by assumption) ?_
          try simp only [List.getElem_toArray, List.getElem_cons_zero, List.getElem_cons_succ, Act.put, List.setIfInBounds_toArray, List.set_cons_zero, List.set_cons_succ]
          refine wpAnyH_take (i := 11) (v := .agg #[.string t.key, .int .u64 t.s.p, .int .u32 t.s.l, .int .u8 t.s.n, .int .u8 t.kind, .int .u32 t.flags, .int .u64 t.exp, .string t.body]) rfl (by kernel_rfl) (by kernel_rfl) (by kernel_rfl) (fun _ _ _ h => h) (Or.inl ⟨by rfl, fun w hSw => by (try dsimp only at hSw); go_simp⟩) (by assumption) ?_
          try simp only [List.getElem_toArray, List.getElem_cons_zero, List.getElem_cons_succ, Act.put, List.setIfInBounds_toArray, List.set_cons_zero, List.set_cons_succ]
          refine wpAnyH_ready (rs := [12]) (by kernel_rfl) (by simp) ?_
          refine AllReadyH.cons (i := 12) rfl (fun K hK => ?_) AllReadyH.nil
          obtain ⟨d0, d1, d2, d3, d4, d5, d6, d7, df⟩ := at_cells8 hZB
          go_simp
          clear d0 d1 d2 d3 d4 d5 d6 d7 df
          clear hHeld
          show K _ _
          refine hK.out _ _ (LM.out _ kk) (fun hHeld => ?_)
          clear hK K
          try simp only [List.getElem_toArray, List.getElem_cons_zero, List.getElem_cons_succ, Act.put, List.setIfInBounds_toArray, List.set_cons_zero, List.set_cons_succ]
          refine wpAnyH_ready (rs := [13]) (by kernel_rfl) (by simp) ?_
          refine AllReadyH.cons (i := 13) rfl (fun K hK => ?_) AllReadyH.nil
          go_simp
          refine (hJ2 _).mono ?_
          rintro e w3 ⟨rfl, h3⟩
          replace kk := kept_trans kk h3
          replace hZA := at_kept hZA h3
          replace hZB := at_kept hZB h3
          clear h3
          clear hHeld
          show K _ _
          refine hK.out _ _ (LM.out _ kk) (fun hHeld => ?_)
          clear hK K
          try simp only [List.getElem_toArray, List.getElem_cons_zero, List.getElem_cons_succ, Act.put, List.setIfInBounds_toArray, List.set_cons_zero, List.set_cons_succ]
          refine wpAnyH_ready (rs := [14]) (by kernel_rfl) (by simp) ?_
          refine AllReadyH.cons (i := 14) rfl (fun K hK => ?_) AllReadyH.nil
          obtain ⟨d0, d1, d2, d3, d4, d5, d6, d7, df⟩ := at_cells8 hZB
          go_simp
          clear d0 d1 d2 d3 d4 d5 d6 d7 df
          show K _ (set8 w3 bB (.string z1.key) (.int .u64 z1.s.p) (.int .u32 z1.s.l) (.int .u8 z1.s.n) (.int .u8 z1.kind) (.int .u32 z1.flags) (.int .u64 z1.exp) (.string z1.body))
          replace hZB := at_set8 hZB (.string z1.key) (.int .u64 z1.s.p) (.int .u32 z1.s.l) (.int .u8 z1.s.n) (.int .u8 z1.kind) (.int .u32 z1.flags) (.int .u64 z1.exp) (.string z1.body)
          replace hZA := at_other8 hZA NAB.out (.string z1.key) (.int .u64 z1.s.p) (.int .u32 z1.s.l) (.int .u8 z1.s.n) (.int .u8 z1.kind) (.int .u32 z1.flags) (.int .u64 z1.exp) (.string z1.body)
          replace kk := KsbB.out _ kk (.string z1.key) (.int .u64 z1.s.p) (.int .u32 z1.s.l) (.int .u8 z1.s.n) (.int .u8 z1.kind) (.int .u32 z1.flags) (.int .u64 z1.exp) (.string z1.body)
          generalize set8 w3 bB (.string z1.key) (.int .u64 z1.s.p) (.int .u32 z1.s.l) (.int .u8 z1.s.n) (.int .u8 z1.kind) (.int .u32 z1.flags) (.int .u64 z1.exp) (.string z1.body) = u6 at *
          clear hHeld
          show K _ _
          refine hK.out _ _ (LM.out _ kk) (fun hHeld => ?_)
          clear hK K
          try simp only [List.getElem_toArray, List.getElem_cons_zero, List.getElem_cons_succ, Act.put, List.setIfInBounds_toArray, List.set_cons_zero, List.set_cons_succ]
          refine wpAnyH_done (by kernel_rfl) ?_ _
          refine NoPanic.normal ?_
          clear hHeld
          have ZA3 : Hid (At u6 bA #[.string (fa O (i + 1)).key, .int .u64 (fa O (i + 1)).s.p, .int .u32 (fa O (i + 1)).s.l, .int .u8 (fa O (i + 1)).s.n, .int .u8 (fa O (i + 1)).kind, .int .u32 (fa O (i + 1)).flags, .int .u64 (fa O (i + 1)).exp, .string (fa O (i + 1)).body] 27) := by rw [HA1.out]; exact hZA
          have ZB3 : Hid (At u6 bB #[.string (fb O nn k (i + 1)).key, .int .u64 (fb O nn k (i + 1)).s.p, .int .u32 (fb O nn k (i + 1)).s.l, .int .u8 (fb O nn k (i + 1)).s.n, .int .u8 (fb O nn k (i + 1)).kind, .int .u32 (fb O nn k (i + 1)).flags, .int .u64 (fb O nn k (i + 1)).exp, .string (fb O nn k (i + 1)).body] 27) := by rw [HB1.out]; exact hZB
          have KK3 := hid kk
          clear kk hZA hZB
          go_wp2_with fail
          go_roundw
          case rel => exact ⟨i + 1, by omega, by go_num, KK3, ZA3, ZB3⟩
          case measure => simp [intOf]; omega
        · obtain rfl : i = k := by omega
          have HEQ : Hid (fa O i = fb O nn i i) := fa_eq_fb O nn i hnk key HKey.out
          have HGE : Hid (∀ j, j < i → cmpR (O j) (fa O i) ≤ 0) := fun j hj => fa_ge O i j hj
          have ZB3 : Hid (At w2 bB #[.string (fa O i).key, .int .u64 (fa O i).s.p, .int .u32 (fa O i).s.l, .int .u8 (fa O i).s.n, .int .u8 (fa O i).kind, .int .u32 (fa O i).flags, .int .u64 (fa O i).exp, .string (fa O i).body] 27) := by rw [HEQ.out]; exact ZB.out
          clear ZB HEQ
          generalize fa O i = x at *
          clear hlt
          go_wp2_with fail
          go_loopw [15, 87] (fun _ jv w5 => ∃ j : Nat, j ≤ i ∧ jv = .int .i64 j ∧ Hid (Kept w2 w5)) (fun _ jv _ => i - (intOf jv).toNat)
          case atStart => exact ⟨0, Nat.zero_le _, rfl, kept_refl w2⟩
          case round =>
            obtain ⟨j, hj, rfl, KW⟩ := hrel
            obtain ⟨w5, hw5⟩ : ∃ x, x = wr := ⟨_, rfl⟩
            subst hw5
            by_cases hlt : j < i
            · have hJ := Join_any (O j) (O j) (HSz.out j hlt) (HSz.out j hlt)
              rw [join_self] at hJ
              have hC := Compare_any (O j) x
              have hc0 := HGE.out j hlt
              obtain ⟨c0, c1, c2, c3, c4, c5, c6, c7⟩ := lies_kept (HLi.out j hlt) Hgl.out (kept_trans KK.out KW.out)
              generalize O j = y at *
              have hc1 : decide (0 < cmpR y x) = false := decide_eq_false (by omega)
              generalize cmpR y x = cc at *
              have hE := eq_self y
              have C5 := hid (at_new w5 #[.string y.key, .int .u64 y.s.p, .int .u32 y.s.l, .int .u8 y.s.n, .int .u8 y.kind, .int .u32 y.flags, .int .u64 y.exp, .string y.body] 27)
              have A5 := hid (at_alloc (at_kept ZA.out KW.out) (.cells #[.string y.key, .int .u64 y.s.p, .int .u32 y.s.l, .int .u8 y.s.n, .int .u8 y.kind, .int .u32 y.flags, .int .u64 y.exp, .string y.body] 27))
              have K5 := hid (kept_alloc KW.out (.cells #[.string y.key, .int .u64 y.s.p, .int .u32 y.s.l, .int .u8 y.s.n, .int .u8 y.kind, .int .u32 y.flags, .int .u64 y.exp, .string y.body] 27))
              have hlg := Nat.lt_of_lt_of_le Hgl.out (kept_trans KK.out KW.out).2
              clear hc0
              go_wp2_with fail
              clear c0 c1 c2 c3 c4 c5 c6 c7 hlg
              generalize w5.alloc (.cells #[.string y.key, .int .u64 y.s.p, .int .u32 y.s.l, .int .u8 y.s.n, .int .u8 y.kind, .int .u32 y.flags, .int .u64 y.exp, .string y.body] 27) = w6 at *
              generalize w5.heap.size = bC at *
              have CC := C5.out
              have AA := A5.out
              have k0 : Kept w6 w6.drew := kept_refl w6
              refine wp_region_noPanic ?_
              refine wp_region_held_drew (S := (fun w' => (w'.cell? ⟨bC, 0, none⟩ = some (.string y.key) ∧ w'.cell? ⟨bC, 1, none⟩ = some (.int .u64 y.s.p) ∧ w'.cell? ⟨bC, 2, none⟩ = some (.int .u32 y.s.l) ∧ w'.cell? ⟨bC, 3, none⟩ = some (.int .u8 y.s.n) ∧ w'.cell? ⟨bC, 4, none⟩ = some (.int .u8 y.kind) ∧ w'.cell? ⟨bC, 5, none⟩ = some (.int .u32 y.flags) ∧ w'.cell? ⟨bC, 6, none⟩ = some (.int .u64 y.exp) ∧ w'.cell? ⟨bC, 7, none⟩ = some (.string y.body)) ∧ (w'.cell? ⟨bA, 0, none⟩ = some (.string x.key) ∧ w'.cell? ⟨bA, 1, none⟩ = some (.int .u64 x.s.p) ∧ w'.cell? ⟨bA, 2, none⟩ = some (.int .u32 x.s.l) ∧ w'.cell? ⟨bA, 3, none⟩ = some (.int .u8 x.s.n) ∧ w'.cell? ⟨bA, 4, none⟩ = some (.int .u8 x.kind) ∧ w'.cell? ⟨bA, 5, none⟩ = some (.int .u32 x.flags) ∧ w'.cell? ⟨bA, 6, none⟩ = some (.int .u64 x.exp) ∧ w'.cell? ⟨bA, 7, none⟩ = some (.string x.body)))) (by kernel_rfl) (held16 CC AA (by assumption)) (fun hHeld => ?_)
              refine wpAnyH_take (i := 0) (v := .agg #[.string y.key, .int .u64 y.s.p, .int .u32 y.s.l, .int .u8 y.s.n, .int .u8 y.kind, .int .u32 y.flags, .int .u64 y.exp, .string y.body]) rfl (by kernel_rfl) (by kernel_rfl) (by kernel_rfl) (fun _ _ _ h => h) (Or.inl ⟨by rfl, fun w hSw => by (try dsimp only at hSw); go_simp⟩) (by assumption) ?_
              try simp only [List.getElem_toArray, List.getElem_cons_zero, List.getElem_cons_succ, Act.put, List.setIfInBounds_toArray, List.set_cons_zero, List.set_cons_succ]
              refine wpAnyH_take (i := 1) (v := .agg #[.string x.key, .int .u64 x.s.p, .int .u32 x.s.l, .int .u8 x.s.n, .int .u8 x.kind, .int .u32 x.flags, .int .u64 x.exp, .string x.body]) rfl (by kernel_rfl) (by kernel_rfl) (by kernel_rfl) (fun _ _ _ h => h) (Or.inl ⟨by rfl, fun w hSw => by (try dsimp only at hSw); go_simp⟩) (by assumption) ?_
              try simp only [List.getElem_toArray, List.getElem_cons_zero, List.getElem_cons_succ, Act.put, List.setIfInBounds_toArray, List.set_cons_zero, List.set_cons_succ]
              refine wpAnyH_ready (rs := [2]) (by kernel_rfl) (by simp) ?_
              refine AllReadyH.cons (i := 2) rfl (fun K hK => ?_) AllReadyH.nil
              go_simp
              refine (hC _).mono ?_
              rintro e w3 ⟨rfl, h3⟩
              replace k0 := kept_trans k0 h3
              clear h3
              clear hHeld
              show K _ _
              refine hK.out _ _ (held16 CC AA (by assumption)) (fun hHeld => ?_)
              clear hK K
              try simp only [List.getElem_toArray, List.getElem_cons_zero, List.getElem_cons_succ, Act.put, List.setIfInBounds_toArray, List.set_cons_zero, List.set_cons_succ]
              refine wpAnyH_take (i := 3) (v := .bool false) rfl (by kernel_rfl) (by kernel_rfl) (by kernel_rfl) (fun _ _ _ h => h) (Or.inl ⟨by rfl, fun w hSw => by (try dsimp only at hSw); go_simp⟩) (by assumption) ?_
              try simp only [List.getElem_toArray, List.getElem_cons_zero, List.getElem_cons_succ, Act.put, List.setIfInBounds_toArray, List.set_cons_zero, List.set_cons_succ]
              refine wpAnyH_take (i := 4) (v := .bool false) rfl (by kernel_rfl) (by kernel_rfl) (by kernel_rfl) (fun _ _ _ h => h) (Or.inl ⟨by rfl, fun w hSw => by (try dsimp only at hSw); go_simp⟩) (by assumption) ?_
              try simp only [List.getElem_toArray, List.getElem_cons_zero, List.getElem_cons_succ, Act.put, List.setIfInBounds_toArray, List.set_cons_zero, List.set_cons_succ]
              refine wpAnyH_take (i := 5) (v := .agg #[.string y.key, .int .u64 y.s.p, .int .u32 y.s.l, .int .u8 y.s.n, .int .u8 y.kind, .int .u32 y.flags, .int .u64 y.exp, .string y.body]) rfl (by kernel_rfl) (by kernel_rfl) (by kernel_rfl) (fun _ _ _ h => h) (Or.inl ⟨by rfl, fun w hSw => by (try dsimp only at hSw); go_simp⟩) (by assumption) ?_
              try simp only [List.getElem_toArray, List.getElem_cons_zero, List.getElem_cons_succ, Act.put, List.setIfInBounds_toArray, List.set_cons_zero, List.set_cons_succ]
              refine wpAnyH_take (i := 6) (v := .agg #[.string y.key, .int .u64 y.s.p, .int .u32 y.s.l, .int .u8 y.s.n, .int .u8 y.kind, .int .u32 y.flags, .int .u64 y.exp, .string y.body]) rfl (by kernel_rfl) (by kernel_rfl) (by kernel_rfl) (fun _ _ _ h => h) (Or.inl ⟨by rfl, fun w hSw => by (try dsimp only at hSw); go_simp⟩) (by assumption) ?_
              try simp only [List.getElem_toArray, List.getElem_cons_zero, List.getElem_cons_succ, Act.put, List.setIfInBounds_toArray, List.set_cons_zero, List.set_cons_succ]
              refine wpAnyH_take (i := 8) (v := .agg #[.string y.key, .int .u64 y.s.p, .int .u32 y.s.l, .int .u8 y.s.n, .int .u8 y.kind, .int .u32 y.flags, .int .u64 y.exp, .string y.body]) rfl (by kernel_rfl) (by kernel_rfl) (by kernel_rfl) (fun _ _ _ h => h) (Or.inl ⟨by rfl, fun w hSw => by (try dsimp only at hSw); go_simp⟩) (by assumption) ?_
              try simp only [List.getElem_toArray, List.getElem_cons_zero, List.getElem_cons_succ, Act.put, List.setIfInBounds_toArray, List.set_cons_zero, List.set_cons_succ]
              refine wpAnyH_ready (rs := [7]) (by kernel_rfl) (by simp) ?_
              refine AllReadyH.cons (i := 7) rfl (fun K hK => ?_) AllReadyH.nil
              go_simp
              refine (hJ _).mono ?_
              rintro e w3 ⟨rfl, h3⟩
              replace k0 := kept_trans k0 h3
              clear h3
              clear hHeld
              show K _ _
              refine hK.out _ _ (held16 CC AA (by assumption)) (fun hHeld => ?_)
              clear hK K
              try simp only [List.getElem_toArray, List.getElem_cons_zero, List.getElem_cons_succ, Act.put, List.setIfInBounds_toArray, List.set_cons_zero, List.set_cons_succ]
              refine wpAnyH_take (i := 9) (v := .bool false) rfl (by kernel_rfl) (by kernel_rfl) (by kernel_rfl) (fun _ _ _ h => h) (Or.inl ⟨by rfl, fun w hSw => by (try dsimp only at hSw); go_simp⟩) (by assumption) ?_
              try simp only [List.getElem_toArray, List.getElem_cons_zero, List.getElem_cons_succ, Act.put, List.setIfInBounds_toArray, List.set_cons_zero, List.set_cons_succ]
              refine wpAnyH_take (i := 10) (v := .bool false) rfl (by kernel_rfl) (by kernel_rfl) (by kernel_rfl) (fun _ _ _ h => h) (Or.inl ⟨by rfl, fun w hSw => by (try dsimp only at hSw); go_simp⟩) (by assumption) ?_
              try simp only [List.getElem_toArray, List.getElem_cons_zero, List.getElem_cons_succ, Act.put, List.setIfInBounds_toArray, List.set_cons_zero, List.set_cons_succ]
              refine wpAnyH_done (by kernel_rfl) ?_ _
              refine NoPanic.normal ?_
              clear hHeld
              have K6 := hid (kept_trans K5.out k0)
              clear k0 CC AA
              go_wp2_with fail
              go_roundw
              case rel => exact ⟨j + 1, by omega, by go_num, K6⟩
              case measure => simp [intOf]; omega
            · obtain ⟨c0, c1, c2, c3, c4, c5, c6, c7⟩ := at_cells8' (at_kept ZA.out KW.out)
              have KF := kept_trans (kept_trans HK.out KK.out) KW.out
              have AA := at_kept ZA.out KW.out
              have BB := at_kept ZB3.out KW.out
              have hE := eq_self x
              clear c0 c1 c2 c3 c4 c5 c6 c7
              go_wp2_with fail
              refine (fixed_any _).mono ?_
              rintro e w7 ⟨rfl, k7⟩
              replace KF := kept_trans KF k7
              obtain ⟨c0, c1, c2, c3, c4, c5, c6, c7⟩ := at_cells8' (at_kept AA k7)
              obtain ⟨d0, d1, d2, d3, d4, d5, d6, d7⟩ := at_cells8' (at_kept BB k7)
              clear AA BB k7
              go_wp2_with fail
              go_ret
              exact ⟨rfl, KF⟩
theorem recJoins_walk (key : ByteArray) (oa : Option Addr) (len cap b o : Nat) (S : Nat → R) (turn : Int) (w : World) (hk : key.size ≤ maxLen) (hR : Row w oa len cap b o S) (ht : (Lit.int .u8 turn).wf = true) :
    Calls Try.prog 6 #[.string key, .slice oa len cap, .int .u8 turn] w fun e w' => e = .returned (.bool true) ∧ Kept w w' := by
  by_cases h1 : (1000 : Int) < (key.size : Int)
  · exact joins_fixed key oa len cap turn w (.inl h1)
  · by_cases h2 : (50 : Int) < (len : Int)
    · exact joins_fixed key oa len cap turn w (.inr (.inl ⟨h1, h2⟩))
    · by_cases h3 : len = 0
      · exact joins_fixed key oa len cap turn w (.inr (.inr ⟨h1, h2, h3⟩))
      · have hpos : 0 < len := by omega
        obtain ⟨rfl, -⟩ := hR.2.2.2.1 hpos
        have hb := bounds_u8 ht
        exact joins_main key len cap b o S turn (by omega) w h1 h2 hpos hR
end Go.Proofs.Ytnkfhacmkimncaa
