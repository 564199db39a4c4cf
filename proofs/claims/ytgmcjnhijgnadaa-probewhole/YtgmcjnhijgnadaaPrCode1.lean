/- The landed probe in memory (PrT); the contracts of its New, Waits, knows, waitOf and of a nil probe; of the library's IndexFunc at a row of waits. -/
import Derived.Test.YtgmcjnhijgnadaaPrFixed
import Derived.Test.YtgmcjnhijgnadaaPrRef5
import Derived.Test.YtgmcjnhijgnadaaGCut
namespace Go.Proofs.Ytgmcjnhijgnadaa
open Go.ChangeShapes Go.WideShapes Go.ChangeAt Go.RowKit
set_option linter.unusedVariables false
set_option linter.unusedSimpArgs false
set_option maxRecDepth 100000

/- A wait as the landed probe has it: how many ticks ago it began. -/
def agW (t : Nat) (ws : List Wt) : List Wt := ws.map (fun x => ⟨x.node, t - x.since⟩)
def PrT : Shape Pb := fun w X p F => ∃ rv wv, At w X #[.int .u8 p.self, rv, .int .i64 (p.place : Int), wv] 78 ∧ Og encU 1 5 w 0 rv p.row ∧ Og encW 2 86 w 0 wv (agW p.ticks p.waits) ∧ ∀ b, F b ↔ (b = X ∨ rv.ownBlock = some b ∨ wv.ownBlock = some b)
theorem pr_lt {w : World} {X : Nat} {p : Pb} {F : Nat → Prop} {b : Nat} (h : PrT w X p F) (hb : F b) : b < w.heap.size := by
  obtain ⟨rv, wv, hA, hR, hW, hF⟩ := h
  rcases (hF b).1 hb with rfl | hb | hb
  · exact at_lt hA
  · exact (World.ownsRow.lt hR b hb).2
  · exact (World.ownsRow.lt hW b hb).2
theorem pr_stay {w w' : World} {X : Nat} {p : Pb} {F : Nat → Prop} (h : PrT w X p F) (hs : ∀ b, F b → w'.heap[b]? = w.heap[b]?) : PrT w' X p F := by
  obtain ⟨rv, wv, hA, hR, hW, hF⟩ := h
  exact ⟨rv, wv, (hs X ((hF X).2 (.inl rfl))).trans hA, og_block hR (fun g cur hg _ => hs g ((hF g).2 (.inr (.inl hg)))), og_block hW (fun g cur hg _ => hs g ((hF g).2 (.inr (.inr hg)))), hF⟩
theorem pr_obj : ObjIs PrT := ⟨fun h hb => pr_lt h hb, fun h hs => pr_stay h hs⟩
theorem at_cells4 {w : World} {X T : Nat} {a0 a1 a2 a3 : Value} (h : At w X #[a0, a1, a2, a3] T) : w.cell? ⟨X, 0, none⟩ = some a0 ∧ w.cell? ⟨X, 1, none⟩ = some a1 ∧ w.cell? ⟨X, 2, none⟩ = some a2 ∧ w.cell? ⟨X, 3, none⟩ = some a3 := ⟨at_cell h 0, at_cell h 1, at_cell h 2, at_cell h 3⟩
theorem infoPW : (Try.prog.info? 86).map (fun i => (i.zero, i.size, i.bytes)) = some (some (.agg #[.int .u8 0, .int .i64 0]), 2, 16) := by kernel_rfl
theorem tyPW : TyG Try.prog 76 86 2 16 := by
  obtain ⟨i0, hi, hz0, hz1, hz2⟩ := info_parts infoPW
  exact ⟨Try.underlying76, i0, _, hi, hz0, hz1, hz2, rfl⟩
theorem zeroPW (w : World) : (zeroValue 86).run Try.prog w = .ok (.agg #[.int .u8 0, .int .i64 0]) w := by kernel_rfl
theorem zeroPS (w : World) : (zeroValue 78).run Try.prog w = .ok (.agg #[.int .u8 0, .slice none 0 0, .int .i64 0, .slice none 0 0]) w := by kernel_rfl
/- New. -/
def NewPC (self : Int) (n : Nat) (w : World) (e : Ending) (w' : World) : Prop := ∃ X F, e = .returned (.tuple #[.pointer (some ⟨X, 0, none⟩), .int .i64 0]) ∧ PrT w' X (newP self n) F ∧ Kept w w' ∧ ∀ b, F b → w.heap.size ≤ b
set_option maxHeartbeats 6400000 in
theorem prnew_ok (self : Int) (n : Nat) (w : World) (h1 : 1 ≤ n) (h2 : n ≤ 64) (h3 : 0 ≤ self) (h4 : self < n) : Calls Try.prog 8 #[.int .u8 self, .int .i64 (n : Int)] w (NewPC self n w) := by
  have b1 : ¬ (n : Int) < 1 := by omega
  have b2 : ¬ (64 : Int) < (n : Int) := by omega
  have b3 : ¬ (n : Int) ≤ self := by omega
  have hw : IntKind.i64.wrap self = self := IntWalk.i64_in _ (by omega)
  have hw2 : IntKind.u8.wrap (n : Int) = (n : Int) := by rw [IntKind.wrap_u8]; omega
  have HA := hid (at_new w #[.int .u8 self, .slice none 0 0, .int .i64 0, .slice none 0 0] 78)
  have HK := hid (kept_alloc (kept_refl w) (.cells #[.int .u8 self, .slice none 0 0, .int .i64 0, .slice none 0 0] 78))
  obtain ⟨w0, hw0⟩ : ∃ u, w.alloc (.cells #[.int .u8 self, .slice none 0 0, .int .i64 0, .slice none 0 0] 78) = u := ⟨_, rfl⟩
  obtain ⟨X, hX⟩ : ∃ u, w.heap.size = u := ⟨_, rfl⟩
  rw [hw0] at HK
  rw [hw0, hX] at HA
  have HX : Hid (w.heap.size = X ∧ X < w0.heap.size) := hid ⟨hX, at_lt HA.out⟩
  have hzp := zeroPS
  go_enter Try.func8, Try.ntmps8
  go_wp2_with fail
  clear b1 b2 b3 hw0 hX
  go_loopw [25] (fun j wr => ∃ (i : Nat) (rv : Value), i ≤ n ∧ j = .int .u8 (i : Int) ∧ Hid (At wr X #[.int .u8 self, rv, .int .i64 0, .slice none 0 0] 78) ∧ Hid (Og encU 1 5 wr (X + 1) rv (others self i)) ∧ Hid (Kept w wr)) (fun j _ => n - (intOf j).toNat)
  case atStart => exact ⟨0, _, Nat.zero_le _, rfl, HA, hid (og_nil _ _ _ _ _), HK⟩
  case round =>
    obtain ⟨i, rv, hi, rfl, HAr, HOr, HKr⟩ := hrel
    clear HA HK
    by_cases hlt : i < n
    · have hltz : (i : Int) < (n : Int) := by omega
      have hwi : IntKind.u8.wrap ((i : Int) + 1) = (i : Int) + 1 := by rw [IntKind.wrap_u8]; omega
      by_cases hs : (i : Int) = self
      · have hb : ((i : Int) != self) = false := by simp [hs]
        have HN : Hid (others self (i + 1) = others self i) := hid (by rw [others_next, if_pos hs, List.append_nil])
        clear hs
        go_wp2_with fail
        go_roundw
        case rel => exact ⟨i + 1, rv, by omega, by go_num, HAr, hid (by rw [HN.out]; exact HOr.out), HKr⟩
        case measure => simp [intOf]; omega
      · have hb : ((i : Int) != self) = true := by simp [hs]
        have HN : Hid (others self (i + 1) = others self i ++ [(i : Int)]) := hid (by rw [others_next, if_neg hs])
        have HLn : Hid ((others self i).length ≤ 64) := hid (by rw [others_len]; omega)
        obtain ⟨q0, q1, q2, q3⟩ := at_cells4 HAr.out
        have HKa := hid (kept_alloc (kept_refl wr) (.cells #[.int .u8 (i : Int)] 5))
        have HAa := hid (at_kept HAr.out HKa.out)
        have HOa := hid (og_stays HOr.out HKa.out)
        have HAl := hid (rg_alone encU_ok (y := (i : Int)) (at_new wr #[.int .u8 (i : Int)] 5))
        have HBw : Hid (X + 1 ≤ (wr.alloc (.cells #[.int .u8 (i : Int)] 5)).heap.size) := hid (by have := at_lt HAa.out; omega)
        obtain ⟨ra, rc, hrv, -, -⟩ := og_is encU_ok HOr.out
        subst hrv
        clear hs
        go_wp2_with (at_builtin; go_must (refine wpList_gapp rfl (.tmp 35) (.tmp 37) rfl encU_ok tyU (by decide) (X + 1) _ _ _ [(i : Int)] rfl HOa.out rfl HAl.out (by have := HLn.out; simp; omega) HBw.out ?_; intro v3 w3 hown3 hgrow3 hnil3; have HA3 := hid (at_beside HAa.out HOa.out (by decide) hgrow3); obtain ⟨p0, p1, p2, p3⟩ := at_cells4 HA3.out; have pf := at_frozen HA3.out; have HO3 := hid hown3; have HK3 := hid (kept_gr (kept_trans HKr.out HKa.out) hgrow3 (fun j hj => by have := og_lt HOa.out hj; have := HX.out.1; omega)); clear hown3 hgrow3 hnil3; obtain ⟨va, vc, hv3, -, -⟩ := og_is encU_ok HO3.out; obtain ⟨ln, hln⟩ : ∃ ln, (others self i ++ [(i : Int)]).length = ln := ⟨_, rfl⟩; rw [hln] at hv3; clear hln; subst hv3))
        go_roundw
        case rel => exact ⟨i + 1, .slice va ln vc, by omega, by go_num, hid (at_set HA3.out 1 _), hid (by rw [HN.out]; exact og_set HO3.out (by omega) 1 _), hid (kept_set HK3.out (by have := HX.out.1; omega) 1 _)⟩
        case measure => simp [intOf]; omega
    · have he : i = n := by omega
      subst he
      have hltz : ¬ (i : Int) < (i : Int) := by omega
      go_wp2_with fail
      go_ret2
      refine ⟨X, fun b => b = X ∨ rv.ownBlock = some b ∨ (Value.slice none 0 0).ownBlock = some b, rfl, ⟨rv, _, HAr.out, og_low HOr.out (by omega), og_nil encW 2 86 _ 0, fun b => Iff.rfl⟩, HKr.out, fun b hb => ?_⟩
      rcases hb with rfl | hb | hb
      · have := HX.out.1; omega
      · have := og_lt HOr.out hb; have := HX.out.1; omega
      · cases hb
theorem prnew_no (self n : Int) (w : World) (h1 : 0 ≤ self) (h2 : self < 256) (h : ¬ (1 ≤ n ∧ n ≤ 64 ∧ self < n)) : Calls Try.prog 8 #[.int .u8 self, .int .i64 n] w fun e w' => e = .returned (.tuple #[.pointer none, .int .i64 1]) ∧ Kept w w' := by
  have hw : IntKind.i64.wrap self = self := IntWalk.i64_in _ (by omega)
  by_cases b1 : n < 1
  · have c1 : decide (n < 1) = true := decide_eq_true b1
    go_enter Try.func8, Try.ntmps8
    go_wp2_with fail
    go_ret2
    exact ⟨rfl, kept_refl _⟩
  · have c1 : decide (n < 1) = false := decide_eq_false b1
    by_cases b2 : 64 < n
    · have c2 : decide (64 < n) = true := decide_eq_true b2
      go_enter Try.func8, Try.ntmps8
      go_wp2_with fail
      go_ret2
      exact ⟨rfl, kept_refl _⟩
    · have c2 : decide (64 < n) = false := decide_eq_false b2
      have c3 : decide (n ≤ self) = true := decide_eq_true (by omega)
      clear h
      go_enter Try.func8, Try.ntmps8
      go_wp2_with fail
      go_ret2
      exact ⟨rfl, kept_refl _⟩
/- A nil probe. -/
theorem loadRd {w : World} {Z : Nat} {a0 a1 a2 : Value} (h : At w Z #[a0, a1, a2] 39) : (loadVar 39 ⟨Z, 0, none⟩).run Try.prog w = .ok (.agg #[a0, a1, a2]) w :=
  run_loadVar_row _ _ 39 39 _ (0, 0) _ h Try.underlying39 rfl infoR
theorem resRd {fn : Func} {p : Tmp} (h : fn.results = #[.cell p 39]) (tmps : Array Value) {w : World} {Z : Nat} {cs : Array Value} (hp : tmps.getD p undef = .pointer (some ⟨Z, 0, none⟩)) (hld : (loadVar 39 ⟨Z, 0, none⟩).run Try.prog w = .ok (.agg cs) w) :
    (results fn tmps).run Try.prog w = .ok (.agg cs) w := by
  have hp' : tmps[p]?.getD undef = .pointer (some ⟨Z, 0, none⟩) := by simpa using hp
  simp [results, h, asAddr, Sem.run_bind, Sem.run_pure, Result.andThen, hp', hld]
theorem prtick_nil (x : Int) (w : World) : Calls Try.prog 13 #[.pointer none, .int .u64 x, .slice none 0 0] w fun e w' => ∃ pv av fv, e = .returned (.agg #[pv, av, fv]) ∧ Rw w' pv av fv ⟨[], [], []⟩ ∧ Kept w w' := by
  have hz := zeroR
  have HK := hid (kept_alloc (kept_refl w) (.cells #[.slice none 0 0, .slice none 0 0, .slice none 0 0] 39))
  have HA := hid (at_new w #[.slice none 0 0, .slice none 0 0, .slice none 0 0] 39)
  go_enter Try.func13, Try.ntmps13
  go_wp2_with fail
  refine bodyPost_ret (resRd Try.results13 _ rfl (loadRd HA.out)) rfl ?_
  exact ⟨_, _, _, rfl, ⟨rg_nil _ _ _, rg_nil _ _ _, rg_nil _ _ _⟩, HK.out⟩
theorem pranswer_nil (a : Int) (w : World) : Calls Try.prog 15 #[.pointer none, .int .u8 a] w fun e w' => e = .returned (.bool false) ∧ Kept w w' := by
  go_enter Try.func15, Try.ntmps15
  go_wp2
  go_ret
  exact ⟨rfl, kept_refl _⟩
theorem prwaits_nil (w : World) : Calls Try.prog 17 #[.pointer none] w fun e w' => ∃ a cap, e = .returned (.slice a 0 cap) ∧ Kept w w' := by
  go_enter Try.func17, Try.ntmps17
  go_wp2
  go_ret
  exact ⟨_, _, rfl, kept_refl _⟩
end Go.Proofs.Ytgmcjnhijgnadaa
