/- A frame handed in by value, opened into its three bytes and its body, and shut again. No condition. -/
import Derived.Test.YtffobfjknbgglaaFixed
import Derived.Lib.SmallJoins
namespace Go.Proofs.Ytffobfjknbgglaa
open Go.ChangeShapes Go.WideShapes Go.ChangeAt Go.RowKit Go.Joins
open Go.ChangeMaps (open_string shut_string)
set_option linter.unusedVariables false

theorem cells23 : Try.prog.cellsOf 23 = 4 := by kernel_rfl
def frameD {H : Type} (k f t : UInt8) (s : ByteArray) : DataW H := .agg [.lit (.int .u8 (k.toNat : Int)), .lit (.int .u8 (f.toNat : Int)), .lit (.int .u8 (t.toNat : Int)), .lit (.string s.data.toList)]
theorem byte_of {x : Int} (h : (Lit.int .u8 x).wf = true) : ∃ c : UInt8, x = (c.toNat : Int) := by
  have hb : 0 ≤ x ∧ x < 256 := by have := bounds_u8 h; omega
  refine ⟨UInt8.ofNat x.toNat, ?_⟩
  rw [ofNat_toNat]
  omega
theorem byte_wf (c : UInt8) : (Lit.int .u8 (c.toNat : Int)).wf = true := by
  have := c.toNat_lt
  simp [Lit.wf, IntKind.min, IntKind.max, IntKind.signed, IntKind.bits]
  omega
theorem open_struct23 {H : Type} {enc : TypeId × Value → H} {w : World} {base : Nat} {spare : Nat → Bool} {held : Bool} {r : Reach} {b0 : Nat} {v : Value} {d : DataW H} {p : List MemPlace}
    (hv : Value.okWide Try.prog w r b0 23 v) (h : DataW.Trod enc Try.prog w base spare held 23 v d p) : ∃ (k f t : UInt8) (s : ByteArray), v = frameV k f t s ∧ d = frameD k f t s ∧ p = [] ∧ s.size ≤ maxLen := by
  obtain ⟨v0, v1, v2, v3, y0, y1, y2, y3, n, rfl, rfl, rfl, h0, h1, h2, h3⟩ := open_agg4 Try.underlying23 (by kernel_rfl) cells23 hv h
  obtain ⟨a, e0, rfl, wa⟩ := DataW.trod_int Try.underlying5 h0
  obtain ⟨b, e1, rfl, wb⟩ := DataW.trod_int Try.underlying5 h1
  obtain ⟨c, e2, rfl, wc⟩ := DataW.trod_int Try.underlying5 h2
  obtain ⟨s, e3, rfl, ws⟩ := DataW.trod_string Try.underlying9 h3
  cases e0
  cases e1
  cases e2
  cases e3
  obtain ⟨k, rfl⟩ := byte_of wa
  obtain ⟨f, rfl⟩ := byte_of wb
  obtain ⟨t, rfl⟩ := byte_of wc
  exact ⟨k, f, t, s, rfl, rfl, rfl, ws⟩
theorem shut_struct23 {H : Type} {enc : TypeId × Value → H} {w : World} {base : Nat} {spare : Nat → Bool} {held : Bool} (k f t : UInt8) (s : ByteArray) (hs : s.size ≤ maxLen) :
    DataW.Trod enc Try.prog w base spare held 23 (frameV k f t s) (frameD k f t s) [] :=
  shut_agg4 (y0 := (.lit (.int .u8 (k.toNat : Int)), [])) (y1 := (.lit (.int .u8 (f.toNat : Int)), [])) (y2 := (.lit (.int .u8 (t.toNat : Int)), [])) (y3 := (.lit (.string s.data.toList), [])) Try.underlying23 (by kernel_rfl) cells23
    (field_of_Trod (shut_int Try.underlying5 (byte_wf k)) rfl) (field_of_Trod (shut_int Try.underlying5 (byte_wf f)) rfl) (field_of_Trod (shut_int Try.underlying5 (byte_wf t)) rfl) (field_of_Trod (shut_string Try.underlying9 hs) rfl)
end Go.Proofs.Ytffobfjknbgglaa
