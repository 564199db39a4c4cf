/- A message that is handed in, opened. Four of the laws, of the landed code. -/
import Derived.Test.YtioeidhblbfgmaaGreatY49
import Derived.Test.YtioeidhblbfgmaaGreatY14
import Derived.Test.YtioeidhblbfgmaaGreatY46
import Derived.Test.YtioeidhblbfgmaaGreatY48

namespace Go.Proofs.YtioeidhblbfgmaaGreat
open Go.ChangeShapes Go.WideShapes Go.ChangeAt Go.RowKit Go.Joins Go.Deep
set_option linter.unusedVariables false
set_option linter.unusedSimpArgs false
set_option maxRecDepth 100000

theorem cellsFr : Tryz.prog.cellsOf 46 = 4 := by kernel_rfl
theorem laidOut : laidOutB Tryz.prog = true := by kernel_rfl
theorem cellsSt : Tryz.prog.cellsOf 55 = 3 := by kernel_rfl
theorem cellsR : Tryz.prog.cellsOf 57 = 8 := by kernel_rfl
theorem cellsSn : Tryz.prog.cellsOf 59 = 5 := by kernel_rfl
theorem cellsNw : Tryz.prog.cellsOf 79 = 3 := by kernel_rfl
theorem cellsMb : Tryz.prog.cellsOf 77 = 2 := by kernel_rfl
theorem cellsMs : Tryz.prog.cellsOf 29 = 12 := by kernel_rfl
theorem cellsT4 : Tryz.prog.cellsOf 4 = 1 := by kernel_rfl
theorem cellsT5 : Tryz.prog.cellsOf 5 = 1 := by kernel_rfl
theorem cellsT9 : Tryz.prog.cellsOf 9 = 1 := by kernel_rfl
theorem cellsU64 : Tryz.prog.cellsOf 53 = 1 := by kernel_rfl
theorem cellsU32 : Tryz.prog.cellsOf 22 = 1 := by kernel_rfl
theorem cellsL1 : Tryz.prog.cellsOf 23 = 1 := by kernel_rfl
theorem cellsL2 : Tryz.prog.cellsOf 24 = 1 := by kernel_rfl
theorem cellsL3 : Tryz.prog.cellsOf 25 = 1 := by kernel_rfl
theorem cellsL4 : Tryz.prog.cellsOf 26 = 1 := by kernel_rfl
theorem cellsL5 : Tryz.prog.cellsOf 27 = 1 := by kernel_rfl
theorem list2 {α : Type} {l : List α} (h : l.length = 2) : ∃ c0 c1, l = [c0, c1] := by
  match l, h with
  | [c0, c1], _ => exact ⟨c0, c1, rfl⟩
theorem list3 {α : Type} {l : List α} (h : l.length = 3) : ∃ c0 c1 c2, l = [c0, c1, c2] := by
  match l, h with
  | [c0, c1, c2], _ => exact ⟨c0, c1, c2, rfl⟩
theorem list6 {α : Type} {l : List α} (h : l.length = 6) : ∃ c0 c1 c2 c3 c4 c5, l = [c0, c1, c2, c3, c4, c5] := by
  match l, h with
  | [c0, c1, c2, c3, c4, c5], _ => exact ⟨c0, c1, c2, c3, c4, c5, rfl⟩
theorem list12 {α : Type} {l : List α} (h : l.length = 12) : ∃ c0 c1 c2 c3 c4 c5 c6 c7 c8 c9 c10 c11, l = [c0, c1, c2, c3, c4, c5, c6, c7, c8, c9, c10, c11] := by
  match l, h with
  | [c0, c1, c2, c3, c4, c5, c6, c7, c8, c9, c10, c11], _ => exact ⟨c0, c1, c2, c3, c4, c5, c6, c7, c8, c9, c10, c11, rfl⟩
theorem array12 {α : Type} {cs : Array α} (h : cs.size = 12) : ∃ c0 c1 c2 c3 c4 c5 c6 c7 c8 c9 c10 c11, cs = #[c0, c1, c2, c3, c4, c5, c6, c7, c8, c9, c10, c11] := by
  obtain ⟨l⟩ := cs
  match l, h with
  | [c0, c1, c2, c3, c4, c5, c6, c7, c8, c9, c10, c11], _ => exact ⟨c0, c1, c2, c3, c4, c5, c6, c7, c8, c9, c10, c11, rfl⟩
theorem array4 {α : Type} {cs : Array α} (h : cs.size = 4) : ∃ c0 c1 c2 c3, cs = #[c0, c1, c2, c3] := by
  obtain ⟨l⟩ := cs
  match l, h with
  | [c0, c1, c2, c3], _ => exact ⟨c0, c1, c2, c3, rfl⟩
theorem list4 {α : Type} {l : List α} (h : l.length = 4) : ∃ c0 c1 c2 c3, l = [c0, c1, c2, c3] := by
  match l, h with
  | [c0, c1, c2, c3], _ => exact ⟨c0, c1, c2, c3, rfl⟩
theorem byte_as {x : Int} (h : (Lit.int .u8 x).wf = true) : ∃ c : UInt8, x = (c.toNat : Int) := by
  have hb := bounds_u8 h
  exact ⟨byteI x, (byteI_is (by omega)).symm⟩
section
variable {H : Type} {enc : TypeId × Value → H} {w : World} {base : Nat} {spare : Nat → Bool} {held : Bool} {r : Reach} {b0 : Nat} {v : Value} {d : DataW H} {p : List MemPlace}
theorem trod_rec {fuel : Nat} {cs : List Value} {x : DataW H × List MemPlace} (hl : cs.length = 8) (h : DataW.trod enc Tryz.prog w base spare held fuel 57 cs = some x) : ∃ r : R, cs = encR r ∧ r.ok := by
  match cs, hl with
  | [c0, c1, c2, c3, c4, c5, c6, c7], _ =>
    obtain ⟨xs, n, rfl, -, -, hlen, hf⟩ := DataW.trod_struct Tryz.underlying57 h
    obtain ⟨y0, y1, y2, y3, y4, y5, rfl⟩ := list6 hlen
    have h0 : DataW.trod enc Tryz.prog w base spare held n 9 [c0] = some y0 := by have := hf 0 _ rfl; simpa [cellsT9] using this
    have h1 : DataW.trod enc Tryz.prog w base spare held n 55 [c1, c2, c3] = some y1 := by have := hf 1 _ rfl; simpa [cellsSt] using this
    have h2 : DataW.trod enc Tryz.prog w base spare held n 5 [c4] = some y2 := by have := hf 2 _ rfl; simpa [cellsT5] using this
    have h3 : DataW.trod enc Tryz.prog w base spare held n 22 [c5] = some y3 := by have := hf 3 _ rfl; simpa [cellsU32] using this
    have h4 : DataW.trod enc Tryz.prog w base spare held n 53 [c6] = some y4 := by have := hf 4 _ rfl; simpa [cellsU64] using this
    have h5 : DataW.trod enc Tryz.prog w base spare held n 9 [c7] = some y5 := by have := hf 5 _ rfl; simpa [cellsT9] using this
    obtain ⟨z0, z1, z2, n3, -, -, s0, s1, s2⟩ := trod_struct3 Tryz.underlying55 h1
    simp only [cellsU64, cellsU32, cellsT5] at s0 s1 s2
    simp at s0 s1 s2
    obtain ⟨k, e0, -, wk⟩ := DataW.trod_string Tryz.underlying9 h0
    obtain ⟨a, e1, -, wa⟩ := DataW.trod_int Tryz.underlying53 s0
    obtain ⟨b, e2, -, wb⟩ := DataW.trod_int Tryz.underlying22 s1
    obtain ⟨c, e3, -, wc⟩ := DataW.trod_int Tryz.underlying5 s2
    obtain ⟨t, e4, -, wt⟩ := DataW.trod_int Tryz.underlying5 h2
    obtain ⟨f, e5, -, wf⟩ := DataW.trod_int Tryz.underlying22 h3
    obtain ⟨g, e6, -, wg⟩ := DataW.trod_int Tryz.underlying53 h4
    obtain ⟨d, e7, -, wd⟩ := DataW.trod_string Tryz.underlying9 h5
    simp at e0 e1 e2 e3 e4 e5 e6 e7
    subst e0 e1 e2 e3 e4 e5 e6 e7
    have q1 := bounds_u64 wa
    have q2 := bounds_u32 wb
    have q3 := bounds_u8 wc
    have q4 := bounds_u8 wt
    have q5 := bounds_u32 wf
    have q6 := bounds_u64 wg
    refine ⟨⟨k, ⟨a, b, c⟩, t, f, g, d⟩, rfl, wk, ?_, ?_, ?_, ?_, wd⟩
    · unfold Stp.ok; simp only; omega
    · simp only; omega
    · simp only; omega
    · simp only; omega
theorem trod_news {fuel : Nat} {cs : List Value} {x : DataW H × List MemPlace} (hl : cs.length = 3) (h : DataW.trod enc Tryz.prog w base spare held fuel 79 cs = some x) : ∃ y : Nw, cs = encN y ∧ NwOk y := by
  match cs, hl with
  | [c0, c1, c2], _ =>
    obtain ⟨xs, n, rfl, -, -, hlen, hf⟩ := DataW.trod_struct Tryz.underlying79 h
    obtain ⟨y0, y1, rfl⟩ := list2 hlen
    have h0 : DataW.trod enc Tryz.prog w base spare held n 5 [c0] = some y0 := by have := hf 0 _ rfl; simpa [cellsT5] using this
    have h1 : DataW.trod enc Tryz.prog w base spare held n 77 [c1, c2] = some y1 := by have := hf 1 _ rfl; simpa [cellsMb] using this
    obtain ⟨zs, n2, rfl, -, -, hlen2, hf2⟩ := DataW.trod_struct Tryz.underlying77 h1
    obtain ⟨z0, z1, rfl⟩ := list2 hlen2
    have g0 : DataW.trod enc Tryz.prog w base spare held n2 5 [c1] = some z0 := by have := hf2 0 _ rfl; simpa [cellsT5] using this
    have g1 : DataW.trod enc Tryz.prog w base spare held n2 22 [c2] = some z1 := by have := hf2 1 _ rfl; simpa [cellsU32] using this
    obtain ⟨a, e0, -, wa⟩ := DataW.trod_int Tryz.underlying5 h0
    obtain ⟨b, e1, -, wb⟩ := DataW.trod_int Tryz.underlying5 g0
    obtain ⟨c, e2, -, wc⟩ := DataW.trod_int Tryz.underlying22 g1
    simp at e0 e1 e2
    subst e0 e1 e2
    have q0 := bounds_u8 wa
    have q1 := bounds_u8 wb
    have q2 := bounds_u32 wc
    exact ⟨⟨a, b, c⟩, rfl, by unfold NwOk; simp only; omega⟩
theorem trod_seen {fuel : Nat} {cs : List Value} {x : DataW H × List MemPlace} (hl : cs.length = 5) (h : DataW.trod enc Tryz.prog w base spare held fuel 59 cs = some x) : ∃ y : Sn, cs = encS y ∧ SnOk y := by
  match cs, hl with
  | [c0, c1, c2, c3, c4], _ =>
    obtain ⟨xs, n, rfl, -, -, hlen, hf⟩ := DataW.trod_struct Tryz.underlying59 h
    obtain ⟨y0, y1, y2, rfl⟩ := list3 hlen
    have h0 : DataW.trod enc Tryz.prog w base spare held n 9 [c0] = some y0 := by have := hf 0 _ rfl; simpa [cellsT9] using this
    have h1 : DataW.trod enc Tryz.prog w base spare held n 55 [c1, c2, c3] = some y1 := by have := hf 1 _ rfl; simpa [cellsSt] using this
    have h2 : DataW.trod enc Tryz.prog w base spare held n 5 [c4] = some y2 := by have := hf 2 _ rfl; simpa [cellsT5] using this
    obtain ⟨z0, z1, z2, n3, -, -, s0, s1, s2⟩ := trod_struct3 Tryz.underlying55 h1
    simp only [cellsU64, cellsU32, cellsT5] at s0 s1 s2
    simp at s0 s1 s2
    obtain ⟨k, e0, -, wk⟩ := DataW.trod_string Tryz.underlying9 h0
    obtain ⟨a, e1, -, wa⟩ := DataW.trod_int Tryz.underlying53 s0
    obtain ⟨b, e2, -, wb⟩ := DataW.trod_int Tryz.underlying22 s1
    obtain ⟨c, e3, -, wc⟩ := DataW.trod_int Tryz.underlying5 s2
    obtain ⟨t, e4, -, wt⟩ := DataW.trod_int Tryz.underlying5 h2
    simp at e0 e1 e2 e3 e4
    subst e0 e1 e2 e3 e4
    have q1 := bounds_u64 wa
    have q2 := bounds_u32 wb
    have q3 := bounds_u8 wc
    have q4 := bounds_u8 wt
    exact ⟨⟨k, ⟨a, b, c⟩, t⟩, rfl, by unfold SnOk Stp.ok; simp only; exact ⟨wk, by omega, by omega⟩⟩
theorem trod_text {fuel : Nat} {cs : List Value} {x : DataW H × List MemPlace} (hl : cs.length = 1) (h : DataW.trod enc Tryz.prog w base spare held fuel 9 cs = some x) : ∃ y : ByteArray, cs = encK y ∧ y.size ≤ maxLen := by
  obtain ⟨xd, xp⟩ := x
  obtain ⟨k, e0, -, wk⟩ := DataW.trod_string Tryz.underlying9 h
  exact ⟨k, e0, wk⟩
theorem trod_u64 {fuel : Nat} {cs : List Value} {x : DataW H × List MemPlace} (hl : cs.length = 1) (h : DataW.trod enc Tryz.prog w base spare held fuel 53 cs = some x) : ∃ y : Int, cs = encG y ∧ u64Ok y := by
  obtain ⟨xd, xp⟩ := x
  obtain ⟨a, e0, -, wa⟩ := DataW.trod_int Tryz.underlying53 h
  have q0 := bounds_u64 wa
  exact ⟨a, e0, by unfold u64Ok; omega⟩
theorem open_ty29 (hv : Value.okWide Tryz.prog w r b0 29 v) (h : DataW.Trod enc Tryz.prog w base spare held 29 v d p) : ∃ (m : Ms) (vn vk vr vs vd : Value), v = msgV m vn vk vr vs vd ∧ MsOk m ∧ MsR w vn vk vr vs vd m := by
  obtain ⟨cs, rfl, hsz⟩ := okWide_struct Tryz.underlying29 hv
  obtain ⟨c0, c1, c2, c3, c4, c5, c6, c7, c8, c9, c10, c11, rfl⟩ := array12 (hsz.trans cellsMs)
  obtain ⟨fuel, hf⟩ := h
  have hf' : DataW.trod enc Tryz.prog w base spare held fuel 29 [c0, c1, c2, c3, c4, c5, c6, c7, c8, c9, c10, c11] = some (d, p) := by simpa [Value.cells] using hf
  obtain ⟨xs, n, -, -, -, hlen, hg⟩ := DataW.trod_struct Tryz.underlying29 hf'
  obtain ⟨y0, y1, y2, y3, y4, y5, y6, y7, y8, y9, y10, y11, rfl⟩ := list12 hlen
  have h0 : DataW.trod enc Tryz.prog w base spare held n 5 [c0] = some y0 := by have := hg 0 _ rfl; simpa [cellsT5] using this
  have h1 : DataW.trod enc Tryz.prog w base spare held n 5 [c1] = some y1 := by have := hg 1 _ rfl; simpa [cellsT5] using this
  have h2 : DataW.trod enc Tryz.prog w base spare held n 5 [c2] = some y2 := by have := hg 2 _ rfl; simpa [cellsT5] using this
  have h3 : DataW.trod enc Tryz.prog w base spare held n 22 [c3] = some y3 := by have := hg 3 _ rfl; simpa [cellsU32] using this
  have h4 : DataW.trod enc Tryz.prog w base spare held n 5 [c4] = some y4 := by have := hg 4 _ rfl; simpa [cellsT5] using this
  have h5 : DataW.trod enc Tryz.prog w base spare held n 5 [c5] = some y5 := by have := hg 5 _ rfl; simpa [cellsT5] using this
  have h6 : DataW.trod enc Tryz.prog w base spare held n 4 [c6] = some y6 := by have := hg 6 _ rfl; simpa [cellsT4] using this
  have h7 : DataW.trod enc Tryz.prog w base spare held n 23 [c7] = some y7 := by have := hg 7 _ rfl; simpa [cellsL1] using this
  have h8 : DataW.trod enc Tryz.prog w base spare held n 24 [c8] = some y8 := by have := hg 8 _ rfl; simpa [cellsL2] using this
  have h9 : DataW.trod enc Tryz.prog w base spare held n 25 [c9] = some y9 := by have := hg 9 _ rfl; simpa [cellsL3] using this
  have h10 : DataW.trod enc Tryz.prog w base spare held n 26 [c10] = some y10 := by have := hg 10 _ rfl; simpa [cellsL4] using this
  have h11 : DataW.trod enc Tryz.prog w base spare held n 27 [c11] = some y11 := by have := hg 11 _ rfl; simpa [cellsL5] using this
  obtain ⟨a0, e0, -, w0⟩ := DataW.trod_int Tryz.underlying5 h0
  obtain ⟨a1, e1, -, w1⟩ := DataW.trod_int Tryz.underlying5 h1
  obtain ⟨a2, e2, -, w2⟩ := DataW.trod_int Tryz.underlying5 h2
  obtain ⟨a3, e3, -, w3⟩ := DataW.trod_int Tryz.underlying22 h3
  obtain ⟨a4, e4, -, w4⟩ := DataW.trod_int Tryz.underlying5 h4
  obtain ⟨a5, e5, -, w5⟩ := DataW.trod_int Tryz.underlying5 h5
  obtain ⟨a6, e6, -⟩ := DataW.trod_bool Tryz.underlying4 h6
  obtain ⟨ns, r7, o7⟩ := open_rowsT (ok := NwOk) encN_ok Tryz.underlying23 cellsNw ⟨0, 0, 0⟩ (fun fuel cs x hl ht => trod_news hl ht) h7
  obtain ⟨ks, r8, o8⟩ := open_rowsT (ok := fun y => y.size ≤ maxLen) encK_ok Tryz.underlying24 cellsT9 (⟨#[]⟩ : ByteArray) (fun fuel cs x hl ht => trod_text hl ht) h8
  obtain ⟨rs, r9, o9⟩ := open_rowsT (ok := R.ok) encR_ok Tryz.underlying25 cellsR zeroR (fun fuel cs x hl ht => trod_rec hl ht) h9
  obtain ⟨ss, r10, o10⟩ := open_rowsT (ok := SnOk) encS_ok Tryz.underlying26 cellsSn zeroSn (fun fuel cs x hl ht => trod_seen hl ht) h10
  obtain ⟨ds, r11, o11⟩ := open_rowsT (ok := u64Ok) encG_ok Tryz.underlying27 cellsU64 (0 : Int) (fun fuel cs x hl ht => trod_u64 hl ht) h11
  simp at e0 e1 e2 e3 e4 e5 e6
  subst e0 e1 e2 e3 e4 e5 e6
  have q0 := bounds_u8 w0
  have q1 := bounds_u8 w1
  have q2 := bounds_u8 w2
  have q3 := bounds_u32 w3
  have q4 := bounds_u8 w4
  have q5 := bounds_u8 w5
  exact ⟨⟨a0, a1, a2, a3, a4, a5, a6, ns, ks, rs, ss, ds⟩, c7, c8, c9, c10, c11, rfl, ⟨by simp only; omega, by simp only; omega, by simp only; omega, by simp only; omega, by simp only; omega, by simp only; omega, o7, o8, o9, o10, o11⟩, ⟨r7, r8, r9, r10, r11⟩⟩
theorem open_ty46 (hv : Value.okWide Tryz.prog w r b0 46 v) (h : DataW.Trod enc Tryz.prog w base spare held 46 v d p) : ∃ (k f t : UInt8) (s : ByteArray), v = .agg #[.int .u8 (k.toNat : Int), .int .u8 (f.toNat : Int), .int .u8 (t.toNat : Int), .string s] ∧ s.size ≤ maxLen := by
  obtain ⟨cs, rfl, hsz⟩ := okWide_struct Tryz.underlying46 hv
  obtain ⟨c0, c1, c2, c3, rfl⟩ := array4 (hsz.trans cellsFr)
  obtain ⟨fuel, hf⟩ := h
  have hf' : DataW.trod enc Tryz.prog w base spare held fuel 46 [c0, c1, c2, c3] = some (d, p) := by simpa [Value.cells] using hf
  obtain ⟨xs, n, -, -, -, hlen, hg⟩ := DataW.trod_struct Tryz.underlying46 hf'
  obtain ⟨y0, y1, y2, y3, rfl⟩ := list4 hlen
  have h0 : DataW.trod enc Tryz.prog w base spare held n 5 [c0] = some y0 := by have := hg 0 _ rfl; simpa [cellsT5] using this
  have h1 : DataW.trod enc Tryz.prog w base spare held n 5 [c1] = some y1 := by have := hg 1 _ rfl; simpa [cellsT5] using this
  have h2 : DataW.trod enc Tryz.prog w base spare held n 5 [c2] = some y2 := by have := hg 2 _ rfl; simpa [cellsT5] using this
  have h3 : DataW.trod enc Tryz.prog w base spare held n 9 [c3] = some y3 := by have := hg 3 _ rfl; simpa [cellsT9] using this
  obtain ⟨a0, e0, -, w0⟩ := DataW.trod_int Tryz.underlying5 h0
  obtain ⟨a1, e1, -, w1⟩ := DataW.trod_int Tryz.underlying5 h1
  obtain ⟨a2, e2, -, w2⟩ := DataW.trod_int Tryz.underlying5 h2
  obtain ⟨s, e3, -, w3⟩ := DataW.trod_string Tryz.underlying9 h3
  simp at e0 e1 e2 e3
  subst e0 e1 e2 e3
  obtain ⟨k, rfl⟩ := byte_as w0
  obtain ⟨f, rfl⟩ := byte_as w1
  obtain ⟨t, rfl⟩ := byte_as w2
  exact ⟨k, f, t, s, rfl, w3⟩
end
end Go.Proofs.YtioeidhblbfgmaaGreat


namespace Go.Proofs.YtioeidhblbfgmaaGreat
open Go.ChangeShapes Go.WideShapes Go.ChangeAt Go.RowKit
set_option linter.unusedVariables false

theorem unpacks_all (s : ByteArray) (w : World) (hs : s.size ≤ maxLen) : Calls Tryz.prog 4 #[.string s] w fun e w' => e = .returned (.bool true) ∧ Kept w w' := unpacks_walk tms_is s w
theorem body_all (k f t : UInt8) (b : ByteArray) (w : World) (hb : b.size ≤ maxLen) : Calls Tryz.prog 5 #[.agg #[.int .u8 (k.toNat : Int), .int .u8 (f.toNat : Int), .int .u8 (t.toNat : Int), .string b]] w fun e w' => e = .returned (.bool true) ∧ Kept w w' := body_walk tms_is k f t b w
theorem back_all (m : Ms) (vn vk vr vs vd : Value) (w : World) (ok : MsOk m) (h : MsR w vn vk vr vs vd m) : Calls Tryz.prog 6 #[msgV m vn vk vr vs vd] w fun e w' => e = .returned (.bool true) ∧ Kept w w' := back_walk tms_is m ok vn vk vr vs vd w h
theorem bit_all (m : Ms) (vn vk vr vs vd : Value) (at0 bit : Int) (w : World) (ok : MsOk m) (h : MsR w vn vk vr vs vd m) (hat : (Lit.int .u16 at0).wf = true) (hbit : (Lit.int .u8 bit).wf = true) : Calls Tryz.prog 7 #[msgV m vn vk vr vs vd, .int .u16 at0, .int .u8 bit] w fun e w' => e = .returned (.bool true) ∧ Kept w w' := bit_walk tms_is m ok at0 bit hat hbit vn vk vr vs vd w h
end Go.Proofs.YtioeidhblbfgmaaGreat
