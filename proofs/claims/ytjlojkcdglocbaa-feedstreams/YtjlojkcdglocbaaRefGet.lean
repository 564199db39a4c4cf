/- The contract of the reference's Parse, of gets. It turns nothing that was there. -/
import Derived.Test.YtjlojkcdglocbaaRefP2
import Derived.OrdersHeld
import Derived.Deep.RegionHeld3
namespace Go.Proofs.Ytjlojkcdglocbaa
open Go.ChangeShapes Go.WideShapes Go.ChangeAt Go.RowKit
set_option linter.unusedVariables false
set_option linter.unusedSimpArgs false

theorem own_slice {w : World} {B e s n : Nat} {v : Value} {xs : List Value} (h : w.ownsRow B e s v n xs) : ∃ a m c, v = .slice a m c := by
  rcases h.2 with ⟨h0, _⟩ | ⟨g, cap, cur, h1, _⟩
  · exact ⟨_, _, _, h0⟩
  · exact ⟨_, _, _, h1⟩
theorem own_drew {w : World} {B e s n : Nat} {v : Value} {xs : List Value} (h : w.ownsRow B e s v n xs) : w.drew.ownsRow B e s v n xs := h
theorem own_other {w : World} {B e s n X : Nat} {v : Value} {xs : List Value} (h : w.ownsRow B e s v n xs) (hX : ∀ g, v.ownBlock = some g → g ≠ X) (o : Nat) (u : Value) : (w.setCell ⟨X, o, none⟩ u).ownsRow B e s v n xs := by
  refine ⟨h.1, ?_⟩
  rcases h.2 with h0 | ⟨g, cap, cur, h1, h2, h3, h4⟩
  · exact .inl h0
  · exact .inr ⟨g, cap, cur, h1, h2, (Below.heap_setCell _ _ _ _ (by show g ≠ X; exact hX g (by rw [h1]; rfl))).trans h3, h4⟩
theorem turn_grown {c : Nat} {u w w' : World} {row : Option Nat} (h : Turn c u w) (hg : w.grownBy w' row) (hr : ∀ k, row = some k → u.heap.size ≤ k) : Turn c u w' :=
  ⟨hg.os.trans h.1, hg.output.trans h.2.1, Nat.le_trans h.2.2.1 hg.size, fun k hk hn => (hg.block k (Nat.lt_of_lt_of_le hk h.2.2.1) (fun e => by have := hr k e.symm; omega)).trans (h.2.2.2 k hk hn)⟩
theorem at_grown_get {w w' : World} {X T : Nat} {cs : Array Value} {row : Option Nat} (h : At w X cs T) (hg : w.grownBy w' row) (hr : some X ≠ row) : At w' X cs T := (hg.block X (at_lt h) hr).trans h
set_option maxHeartbeats 3200000 in
set_option maxRecDepth 100000 in
theorem rp_get_loop (s x y : ByteArray) (n : Nat) (L : List ByteArray) (hL : n = L.length + 1) (hS : Short L) (c : Cm) (hc : c = getC L) (hx0 : x = ⟨#[103, 101, 116]⟩) (b : Bool) (hy : (y.toList == [110, 111, 114, 101, 112, 108, 121]) = b) (hn : 1 < n ∧ n ≤ 17) (w : World)
    (hWd : ∀ w, Calls Try.prog 21 #[.string s] w fun e w' => ∃ A cap, e = .returned (.slice (some ⟨A, 0, none⟩) n cap) ∧ (∀ u, Kept w' u → u.cell? ⟨A, 0, none⟩ = some (.string x) ∧ u.cell? ⟨A, n - 1, none⟩ = some (.string y) ∧ Lay u A 0 (x :: L)) ∧ Kept w w') :
    Calls Try.prog 16 #[.string s] w fun e w' => ∃ kv, e = .returned (.tuple #[.agg #[.int .i64 c.kind, kv, .int .u32 c.flags, .int .i64 c.exp, .string ⟨#[]⟩, .bool c.quiet, .string c.reply], .int .i64 (-1)]) ∧ Keys w' kv c.keys ∧ Kept w w' := by
  have hz := zero26
  have HA : Hid (At (w.alloc (.cells #[.int .i64 0, .slice none 0 0, .int .u32 0, .int .i64 0, .string ⟨#[]⟩, .bool false, .string ⟨#[]⟩] 38)) w.heap.size #[.int .i64 0, .slice none 0 0, .int .u32 0, .int .i64 0, .string ⟨#[]⟩, .bool false, .string ⟨#[]⟩] 38) := at_new _ _ _
  have HK : Hid (Kept w (w.alloc (.cells #[.int .i64 0, .slice none 0 0, .int .u32 0, .int .i64 0, .string ⟨#[]⟩, .bool false, .string ⟨#[]⟩] 38))) := kept_alloc (kept_refl w) _
  have HY : Hid (∀ (u : World) (a0 a1 a2 a3 a4 a5 a6 : Value), Kept w u → Kept w (set7 u w.heap.size a0 a1 a2 a3 a4 a5 a6)) := fun u a0 a1 a2 a3 a4 a5 a6 h => kept_set7 h (Nat.le_refl _) _ _ _ _ _ _ _
  have HWd := hid hWd
  have gstats : (x.toList == [115, 116, 97, 116, 115]) = false := by rw [txt_eq, hx0]; decide
  have gversion : (x.toList == [118, 101, 114, 115, 105, 111, 110]) = false := by rw [txt_eq, hx0]; decide
  have gquit : (x.toList == [113, 117, 105, 116]) = false := by rw [txt_eq, hx0]; decide
  have gget : (x.toList == [103, 101, 116]) = true := by rw [txt_eq, hx0]; decide
  clear hx0
  obtain ⟨i0, hi, hz0, hz1, hz2⟩ := info_parts (P := Try.prog) (e := 9) (show (Try.prog.info? 9).map (fun i => (i.zero, i.size, i.bytes)) = some (some (.string ⟨#[]⟩), 1, 16) by kernel_rfl)
  have HI := hid (And.intro hi (And.intro hz0 (And.intro hz1 hz2)))
  have n1 : (1 : Int) < (n : Int) := by omega
  have n0 : ((n : Int) == 0) = false := by simp; omega
  have n2 : decide ((n : Int) < 2) = false := by simp; omega
  have n17 : decide ((17 : Int) < (n : Int)) = false := by simp; omega
  have hn6 : (n : Int) ≤ 17 := by omega
  have HL := hid hL
  have HSh := hid hS
  have HC := hid hc
  have HN := hid hn
  clear hWd hi hz0 hz1 hz2 hL hS hc hn
  go_enter Try.func16, Try.ntmps16
  go_wp2_with fail
  generalize w.alloc (.cells #[.int .i64 0, .slice none 0 0, .int .u32 0, .int .i64 0, .string ⟨#[]⟩, .bool false, .string ⟨#[]⟩] 38) = wa at *
  generalize w.heap.size = X at *
  refine (HWd.out _).mono ?_
  rintro e w1 ⟨A, cap, rfl, hcl, hk1⟩
  have HCl := hid hcl
  have HA1 := hid (at_kept HA.out hk1)
  have HK1 := hid (kept_trans HK.out hk1)
  clear hcl hk1
  go_wp2_with fail
  refine (Bad_fmt _).mono ?_
  rintro e w2 ⟨rfl, hk2⟩
  have AX := hid (at_alloc (at_kept HA1.out hk2) (.cells #[.int .i64 8, .slice none 0 0, .int .u32 0, .int .i64 0, .string ⟨#[]⟩, .bool false, .string rFmt] 38))
  have AY := hid (at_new w2 #[.int .i64 8, .slice none 0 0, .int .u32 0, .int .i64 0, .string ⟨#[]⟩, .bool false, .string rFmt] 38)
  have KV := hid (kept_alloc (kept_trans HK1.out hk2) (.cells #[.int .i64 8, .slice none 0 0, .int .u32 0, .int .i64 0, .string ⟨#[]⟩, .bool false, .string rFmt] 38))
  obtain ⟨k0, k1, klay⟩ := HCl.out _ (kept_alloc hk2 (.cells #[.int .i64 8, .slice none 0 0, .int .u32 0, .int .i64 0, .string ⟨#[]⟩, .bool false, .string rFmt] 38))
  have KU := hid (kept_alloc hk2 (.cells #[.int .i64 8, .slice none 0 0, .int .u32 0, .int .i64 0, .string ⟨#[]⟩, .bool false, .string rFmt] 38))
  clear hk2 HA HK HA1
  obtain ⟨y0, y1, y2, y3, y4, y5, y6, -⟩ := at_cells7 AY.out
  obtain ⟨c0, c1, c2, c3, c4, c5, c6, fr⟩ := at_cells7 AX.out
  go_wp2_with fail
  have AX0 := hid (at_alloc AX.out (.cells #[.int .i64 1, .slice none 0 0, .int .u32 0, .int .i64 0, .string ⟨#[]⟩, .bool false, .string ⟨#[]⟩] 38))
  have AY0 := hid (at_alloc AY.out (.cells #[.int .i64 1, .slice none 0 0, .int .u32 0, .int .i64 0, .string ⟨#[]⟩, .bool false, .string ⟨#[]⟩] 38))
  have AZ0 := hid (at_new (w2.alloc (.cells #[.int .i64 8, .slice none 0 0, .int .u32 0, .int .i64 0, .string ⟨#[]⟩, .bool false, .string rFmt] 38)) #[.int .i64 1, .slice none 0 0, .int .u32 0, .int .i64 0, .string ⟨#[]⟩, .bool false, .string ⟨#[]⟩] 38)
  have KV0 := hid (kept_alloc KV.out (.cells #[.int .i64 1, .slice none 0 0, .int .u32 0, .int .i64 0, .string ⟨#[]⟩, .bool false, .string ⟨#[]⟩] 38))
  have KU0 := hid (kept_alloc KU.out (.cells #[.int .i64 1, .slice none 0 0, .int .u32 0, .int .i64 0, .string ⟨#[]⟩, .bool false, .string ⟨#[]⟩] 38))
  have XZ : Hid (X ≠ w2.heap.size + 1 ∧ w2.heap.size ≠ w2.heap.size + 1) := by
    have h1 := at_lt AX.out
    simp only [World.size_alloc] at h1
    show _ ∧ _
    omega
  have HZB : Hid (w2.heap.size + 1 < ((w2.alloc (.cells #[.int .i64 8, .slice none 0 0, .int .u32 0, .int .i64 0, .string ⟨#[]⟩, .bool false, .string rFmt] 38)).alloc (.cells #[.int .i64 1, .slice none 0 0, .int .u32 0, .int .i64 0, .string ⟨#[]⟩, .bool false, .string ⟨#[]⟩] 38)).heap.size) := by show _ < _; simp
  have HZK : Hid (∀ u, Turn (w2.heap.size + 1) ((w2.alloc (.cells #[.int .i64 8, .slice none 0 0, .int .u32 0, .int .i64 0, .string ⟨#[]⟩, .bool false, .string rFmt] 38)).alloc (.cells #[.int .i64 1, .slice none 0 0, .int .u32 0, .int .i64 0, .string ⟨#[]⟩, .bool false, .string ⟨#[]⟩] 38)) u → Kept w u ∧ Kept w1 u) := fun u t =>
    ⟨kept_turn KV0.out (by have := KV.out.2; simp only [World.size_alloc] at this; omega) t, kept_turn KU0.out (by have := KU.out.2; simp only [World.size_alloc] at this; omega) t⟩
  simp only [World.size_alloc] at AZ0
  clear k0 k1 klay y0 y1 y2 y3 y4 y5 y6 c0 c1 c2 c3 c4 c5 c6 fr AX AY KV KU
  generalize (w2.alloc (.cells #[.int .i64 8, .slice none 0 0, .int .u32 0, .int .i64 0, .string ⟨#[]⟩, .bool false, .string rFmt] 38)).alloc (.cells #[.int .i64 1, .slice none 0 0, .int .u32 0, .int .i64 0, .string ⟨#[]⟩, .bool false, .string ⟨#[]⟩] 38) = v0 at *
  generalize w2.heap.size + 1 = Z at *
  generalize w2.heap.size = Y at *
  go_loopw [9] (fun j wr => ∃ m : Nat, m + 1 ≤ n ∧ j = .int .i64 ((m + 1 : Nat) : Int) ∧ Hid (∃ kv, Turn Z v0 wr ∧ At wr Z #[.int .i64 1, kv, .int .u32 0, .int .i64 0, .string ⟨#[]⟩, .bool false, .string ⟨#[]⟩] 38 ∧ wr.ownsRow v0.heap.size 9 1 kv m ((L.take m).map Value.string)) ∧ Hid (∀ q (hq : q < L.length), q < m → keyMay L[q] = true)) (fun j _ => n - (intOf j).toNat)
  case atStart => exact ⟨0, by have := HN.out; omega, rfl, ⟨_, Turn.refl _ _, AZ0.out, World.ownsRow_nil _ _ _ _⟩, fun q _ hq => absurd hq (by omega)⟩
  case round =>
    obtain ⟨m, hm, rfl, HR, HG⟩ := hrel
    obtain ⟨kv, tr, ar, orow⟩ := HR.out
    obtain ⟨ka, km, kc, rfl⟩ := own_slice orow
    have AXr := hid (at_turn AX0.out tr XZ.out.1)
    have AYr := hid (at_turn AY0.out tr XZ.out.2)
    have KVr := hid (HZK.out _ tr).1
    have HTr := hid tr
    have HAr := hid ar
    have HOr := hid orow
    clear tr ar orow
    by_cases hlt : m + 1 < n
    · have hmL : Hid (m < L.length) := by show m < _; have := HL.out; omega
      have HLS : Hid (∀ u, Turn Z v0 u → u.cell? ⟨A, m + 1, none⟩ = some (.string (L[m]'hmL.out))) := fun u t => by
        have hl := (HCl.out u (HZK.out u t).2).2.2
        have h1 := hl.2 (m + 1) (by simp; exact hmL.out)
        rw [Nat.zero_add] at h1
        rw [h1]
        simp
      have HXS : Hid (L[m]'hmL.out ∈ L) := List.getElem_mem _
      have HXT : Hid ((L.take (m + 1)).map Value.string = (L.take m).map Value.string ++ [Value.string (L[m]'hmL.out)]) := by
        show _ = _; rw [List.take_succ_eq_append_getElem hmL.out, List.map_append]; rfl
      have HXK : Hid (keyMay (L[m]'hmL.out) = false → c = bad rFmt) := fun h => HC.out.trans (getC_key L m hmL.out h)
      have HXG : Hid (keyMay (L[m]'hmL.out) = true → ∀ q (hq : q < L.length), q < m + 1 → keyMay L[q] = true) := fun h q hq hl => by
        rcases (show q < m ∨ q = m by omega) with h1 | rfl
        · exact HG.out q hq h1
        · exact h
      generalize (L[m]'hmL.out) = x1 at *
      have hxs : x1.size ≤ 4294967296 := HSh.out _ HXS.out
      have HM := hid (fun w => refKeyMay_any x1 (by unfold maxLen; omega) w)
      have hx1 := HLS.out _ HTr.out
      have hlt' : ((m + 1 : Nat) : Int) < (n : Int) := by omega
      clear hxs
      go_wp2_with fail
      refine (HM.out _).mono ?_
      rintro e u1 ⟨rfl, hu⟩
      rw [hu]; clear hu u1
      cases hkm : keyMay x1 with
      | false =>
        have hc := hid (HXK.out hkm)
        clear hkm
        obtain ⟨y0, y1, y2, y3, y4, y5, y6, -⟩ := at_cells7 AYr.out
        obtain ⟨c0, c1, c2, c3, c4, c5, c6, fr⟩ := at_cells7 AXr.out
        go_wp2_with fail
        refine bodyPost_ret (res2 rfl _ rfl rfl (at_set7 AXr.out _ _ _ _ _ _ _)) rfl ?_
        exact bad_end2 hc.out AXr.out HY.out KVr.out
      | true =>
        have HNG := hid (HXG.out hkm)
        clear hkm hx1
        go_wp2_with fail
        have tr := HTr.out
        have ar := HAr.out
        have orow := HOr.out
        refine wp_region_noPanic ?_
        refine wp_region_held_drew (S := (fun w' => w'.cell? ⟨A, m + 1, none⟩ = some (.string x1))) (by kernel_rfl) (HLS.out _ (by repeat (first | with_reducible assumption | with_reducible apply turn_drew | with_reducible apply turn_alloc))) (fun hHeld => ?_)
        refine wpAnyH_take (i := 0) (v := .pointer (some ⟨Z, 1, none⟩)) rfl (by kernel_rfl) (by kernel_rfl) (by kernel_rfl) (fun _ _ _ h => h) (Or.inl ⟨by rfl, fun w hSw => by (try dsimp only at hSw); go_simp⟩) (by assumption) ?_
        try simp only [List.getElem_toArray, List.getElem_cons_zero, List.getElem_cons_succ, Act.put, List.setIfInBounds_toArray, List.set_cons_zero, List.set_cons_succ]
        refine wpAnyH_take (i := 2) (v := .slice (some ⟨A, 0, none⟩) n cap) rfl (by kernel_rfl) (by kernel_rfl) (by kernel_rfl) (fun _ _ _ h => h) (Or.inl ⟨by rfl, fun w hSw => by (try dsimp only at hSw); go_simp⟩) (by assumption) ?_
        try simp only [List.getElem_toArray, List.getElem_cons_zero, List.getElem_cons_succ, Act.put, List.setIfInBounds_toArray, List.set_cons_zero, List.set_cons_succ]
        refine wpAnyH_take (i := 3) (v := .int .i64 ((m + 1 : Nat) : Int)) rfl (by kernel_rfl) (by kernel_rfl) (by kernel_rfl) (fun _ _ _ h => h) (Or.inl ⟨by rfl, fun w hSw => by (try dsimp only at hSw); go_simp⟩) (by assumption) ?_
        try simp only [List.getElem_toArray, List.getElem_cons_zero, List.getElem_cons_succ, Act.put, List.setIfInBounds_toArray, List.set_cons_zero, List.set_cons_succ]
        refine wpAnyH_take (i := 4) (v := .pointer (some ⟨A, m + 1, none⟩)) rfl (by kernel_rfl) (by kernel_rfl) (by kernel_rfl) (fun _ _ _ h => h) (Or.inl ⟨by rfl, fun w hSw => by (try dsimp only at hSw); go_simp; intro h; omega⟩) (by assumption) ?_
        try simp only [List.getElem_toArray, List.getElem_cons_zero, List.getElem_cons_succ, Act.put, List.setIfInBounds_toArray, List.set_cons_zero, List.set_cons_succ]
        refine wpAnyH_take (i := 5) (v := .string x1) rfl (by kernel_rfl) (by kernel_rfl) (by kernel_rfl) (fun _ _ _ h => h) (Or.inl ⟨by rfl, fun w hSw => by (try dsimp only at hSw); go_simp⟩) (by assumption) ?_
        try simp only [List.getElem_toArray, List.getElem_cons_zero, List.getElem_cons_succ, Act.put, List.setIfInBounds_toArray, List.set_cons_zero, List.set_cons_succ]
        refine wpAnyH_ready (rs := [1, 6]) (by kernel_rfl) (by simp) ?_
        refine AllReadyH.cons (i := 1) rfl (fun K hK => ?_) ?_
        · obtain ⟨-, z1, -, -, -, -, -, -⟩ := at_cells7 (at_drew ar)
          go_simp
          refine hK.out _ _ (HLS.out _ (by repeat (first | with_reducible assumption | with_reducible apply turn_drew | with_reducible apply turn_alloc))) (fun hHeld => ?_)
          clear hK K
          try simp only [List.getElem_toArray, List.getElem_cons_zero, List.getElem_cons_succ, Act.put, List.setIfInBounds_toArray, List.set_cons_zero, List.set_cons_succ]
          refine wpAnyH_ready (rs := [6]) (by kernel_rfl) (by simp) ?_
          refine AllReadyH.cons (i := 6) rfl (fun K hK => ?_) AllReadyH.nil
          go_simp
          have hb := at_drew (at_new wr #[.string x1] 9)
          have tb := turn_drew (turn_alloc tr (.cells #[.string x1] 9))
          have az := at_drew (at_alloc ar (.cells #[.string x1] 9))
          have ob := own_drew (orow.alloc (.cells #[.string x1] 9))
          show K _ (wr.alloc (.cells #[.string x1] 9)).drew
          generalize (wr.alloc (.cells #[.string x1] 9)).drew = wb at *
          generalize wr.heap.size = bb at *
          refine hK.out _ _ (HLS.out _ (by repeat (first | with_reducible assumption | with_reducible apply turn_drew | with_reducible apply turn_alloc))) (fun hHeld => ?_)
          clear hK K
          try simp only [List.getElem_toArray, List.getElem_cons_zero, List.getElem_cons_succ, Act.put, List.setIfInBounds_toArray, List.set_cons_zero, List.set_cons_succ]
          refine wpAnyH_ready (rs := [7]) (by kernel_rfl) (by simp) ?_
          refine AllReadyH.cons (i := 7) rfl (fun K hK => ?_) AllReadyH.nil
          refine wp_append_own wb (.tmp 75) (.tmp 80) 35 rfl v0.heap.size 9 i0 (.string ⟨#[]⟩) 1 16 Try.underlying35 HI.out.1 HI.out.2.1 HI.out.2.2.1 HI.out.2.2.2 rfl (by decide) (.slice ka km kc) m _ rfl ob ⟨bb, 0, none⟩ 1 1 [.string x1] rfl rfl (one_at hb) (by intro u hu; simp at hu; subst hu; rfl) (by unfold maxLen; omega) (by omega) tb.2.2.1 ?_
          intro v3 w3 o3 g3 n3
          have t3 := turn_grown tb g3 (fun g hg => (ob.lt g hg).1)
          have a3 := at_grown_get az g3 (fun e => by have h1 := (ob.lt Z e.symm).1; have h2 := HZB.out; omega)
          obtain ⟨a4, m4, c4, rfl⟩ := own_slice o3
          show K _ w3
          refine hK.out _ _ (HLS.out _ (by repeat (first | with_reducible assumption | with_reducible apply turn_drew | with_reducible apply turn_alloc))) (fun hHeld => ?_)
          clear hK K
          try simp only [List.getElem_toArray, List.getElem_cons_zero, List.getElem_cons_succ, Act.put, List.setIfInBounds_toArray, List.set_cons_zero, List.set_cons_succ]
          refine wpAnyH_take (i := 8) (v := .pointer (some ⟨Z, 1, none⟩)) rfl (by kernel_rfl) (by kernel_rfl) (by kernel_rfl) (fun _ _ _ h => h) (Or.inl ⟨by rfl, fun w hSw => by (try dsimp only at hSw); go_simp⟩) (by assumption) ?_
          try simp only [List.getElem_toArray, List.getElem_cons_zero, List.getElem_cons_succ, Act.put, List.setIfInBounds_toArray, List.set_cons_zero, List.set_cons_succ]
          refine wpAnyH_ready (rs := [9]) (by kernel_rfl) (by simp) ?_
          refine AllReadyH.cons (i := 9) rfl (fun K hK => ?_) AllReadyH.nil
          obtain ⟨-, z1, -, -, -, -, -, zf⟩ := at_cells7 a3
          go_simp
          have t4 := turn_set t3 1 (.slice a4 m4 c4)
          have a5 : At (w3.setCell ⟨Z, 1, none⟩ (.slice a4 m4 c4)) Z #[.int .i64 1, (.slice a4 m4 c4), .int .u32 0, .int .i64 0, .string ⟨#[]⟩, .bool false, .string ⟨#[]⟩] 38 := at_set a3 1 _
          have o5 := own_other o3 (fun g hg e => by have h1 := (o3.lt g hg).1; have h2 := HZB.out; omega) 1 (.slice a4 m4 c4) (X := Z)
          show K _ (w3.setCell ⟨Z, 1, none⟩ (.slice a4 m4 c4))
          generalize w3.setCell ⟨Z, 1, none⟩ (.slice a4 m4 c4) = w5 at *
          refine hK.out _ _ (HLS.out _ (by repeat (first | with_reducible assumption | with_reducible apply turn_drew | with_reducible apply turn_alloc))) (fun hHeld => ?_)
          clear hK K
          try simp only [List.getElem_toArray, List.getElem_cons_zero, List.getElem_cons_succ, Act.put, List.setIfInBounds_toArray, List.set_cons_zero, List.set_cons_succ]
          refine wpAnyH_done (by kernel_rfl) ?_ _
          refine NoPanic.normal ?_
          go_wp2_with fail
          go_roundw
          case rel => exact ⟨m + 1, by omega, by go_num, ⟨_, t4, a5, by rw [HXT.out]; exact o5⟩, HNG⟩
          case measure => simp [intOf]; omega
        refine AllReadyH.cons (i := 6) rfl (fun K hK => ?_) AllReadyH.nil
        go_simp
        have hb := at_drew (at_new wr #[.string x1] 9)
        have tb := turn_drew (turn_alloc tr (.cells #[.string x1] 9))
        have az := at_drew (at_alloc ar (.cells #[.string x1] 9))
        have ob := own_drew (orow.alloc (.cells #[.string x1] 9))
        show K _ (wr.alloc (.cells #[.string x1] 9)).drew
        generalize (wr.alloc (.cells #[.string x1] 9)).drew = wb at *
        generalize wr.heap.size = bb at *
        refine hK.out _ _ (HLS.out _ (by repeat (first | with_reducible assumption | with_reducible apply turn_drew | with_reducible apply turn_alloc))) (fun hHeld => ?_)
        clear hK K
        try simp only [List.getElem_toArray, List.getElem_cons_zero, List.getElem_cons_succ, Act.put, List.setIfInBounds_toArray, List.set_cons_zero, List.set_cons_succ]
        refine wpAnyH_ready (rs := [1]) (by kernel_rfl) (by simp) ?_
        refine AllReadyH.cons (i := 1) rfl (fun K hK => ?_) AllReadyH.nil
        obtain ⟨-, z1, -, -, -, -, -, -⟩ := at_cells7 az
        go_simp
        refine hK.out _ _ (HLS.out _ (by repeat (first | with_reducible assumption | with_reducible apply turn_drew | with_reducible apply turn_alloc))) (fun hHeld => ?_)
        clear hK K
        try simp only [List.getElem_toArray, List.getElem_cons_zero, List.getElem_cons_succ, Act.put, List.setIfInBounds_toArray, List.set_cons_zero, List.set_cons_succ]
        refine wpAnyH_ready (rs := [7]) (by kernel_rfl) (by simp) ?_
        refine AllReadyH.cons (i := 7) rfl (fun K hK => ?_) AllReadyH.nil
        refine wp_append_own wb (.tmp 75) (.tmp 80) 35 rfl v0.heap.size 9 i0 (.string ⟨#[]⟩) 1 16 Try.underlying35 HI.out.1 HI.out.2.1 HI.out.2.2.1 HI.out.2.2.2 rfl (by decide) (.slice ka km kc) m _ rfl ob ⟨bb, 0, none⟩ 1 1 [.string x1] rfl rfl (one_at hb) (by intro u hu; simp at hu; subst hu; rfl) (by unfold maxLen; omega) (by omega) tb.2.2.1 ?_
        intro v3 w3 o3 g3 n3
        have t3 := turn_grown tb g3 (fun g hg => (ob.lt g hg).1)
        have a3 := at_grown_get az g3 (fun e => by have h1 := (ob.lt Z e.symm).1; have h2 := HZB.out; omega)
        obtain ⟨a4, m4, c4, rfl⟩ := own_slice o3
        show K _ w3
        refine hK.out _ _ (HLS.out _ (by repeat (first | with_reducible assumption | with_reducible apply turn_drew | with_reducible apply turn_alloc))) (fun hHeld => ?_)
        clear hK K
        try simp only [List.getElem_toArray, List.getElem_cons_zero, List.getElem_cons_succ, Act.put, List.setIfInBounds_toArray, List.set_cons_zero, List.set_cons_succ]
        refine wpAnyH_take (i := 8) (v := .pointer (some ⟨Z, 1, none⟩)) rfl (by kernel_rfl) (by kernel_rfl) (by kernel_rfl) (fun _ _ _ h => h) (Or.inl ⟨by rfl, fun w hSw => by (try dsimp only at hSw); go_simp⟩) (by assumption) ?_
        try simp only [List.getElem_toArray, List.getElem_cons_zero, List.getElem_cons_succ, Act.put, List.setIfInBounds_toArray, List.set_cons_zero, List.set_cons_succ]
        refine wpAnyH_ready (rs := [9]) (by kernel_rfl) (by simp) ?_
        refine AllReadyH.cons (i := 9) rfl (fun K hK => ?_) AllReadyH.nil
        obtain ⟨-, z1, -, -, -, -, -, zf⟩ := at_cells7 a3
        go_simp
        have t4 := turn_set t3 1 (.slice a4 m4 c4)
        have a5 : At (w3.setCell ⟨Z, 1, none⟩ (.slice a4 m4 c4)) Z #[.int .i64 1, (.slice a4 m4 c4), .int .u32 0, .int .i64 0, .string ⟨#[]⟩, .bool false, .string ⟨#[]⟩] 38 := at_set a3 1 _
        have o5 := own_other o3 (fun g hg e => by have h1 := (o3.lt g hg).1; have h2 := HZB.out; omega) 1 (.slice a4 m4 c4) (X := Z)
        show K _ (w3.setCell ⟨Z, 1, none⟩ (.slice a4 m4 c4))
        generalize w3.setCell ⟨Z, 1, none⟩ (.slice a4 m4 c4) = w5 at *
        refine hK.out _ _ (HLS.out _ (by repeat (first | with_reducible assumption | with_reducible apply turn_drew | with_reducible apply turn_alloc))) (fun hHeld => ?_)
        clear hK K
        try simp only [List.getElem_toArray, List.getElem_cons_zero, List.getElem_cons_succ, Act.put, List.setIfInBounds_toArray, List.set_cons_zero, List.set_cons_succ]
        refine wpAnyH_done (by kernel_rfl) ?_ _
        refine NoPanic.normal ?_
        go_wp2_with fail
        go_roundw
        case rel => exact ⟨m + 1, by omega, by go_num, ⟨_, t4, a5, by rw [HXT.out]; exact o5⟩, HNG⟩
        case measure => simp [intOf]; omega
    · have he : m + 1 = n := by omega
      have hmL : m = L.length := by have := HL.out; omega
      have hge : ¬ ((m + 1 : Nat) : Int) < (n : Int) := by omega
      subst hmL
      rw [List.take_length] at HOr
      have HKO := hid (keys_own HOr.out)
      have hcg := hid (HC.out.trans (getC_good L (by have := HN.out; have := HL.out; omega) (by have := HN.out; have := HL.out; omega) (fun q hq => HG.out q hq hq)))
      obtain ⟨z0, z1, z2, z3, z4, z5, z6, -⟩ := at_cells7 HAr.out
      obtain ⟨c0, c1, c2, c3, c4, c5, c6, fr⟩ := at_cells7 AXr.out
      clear he
      go_wp2_with fail
      refine bodyPost_ret (res2 rfl _ rfl rfl (at_set7 AXr.out _ _ _ _ _ _ _)) rfl ?_
      rw [hcg.out]
      exact ⟨_, rfl, keys_set7' HKO.out.1 AXr.out _ _ _ _ _ _ _, HY.out _ _ _ _ _ _ _ _ KVr.out⟩
end Go.Proofs.Ytjlojkcdglocbaa
