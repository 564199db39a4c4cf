/- The law that any frame is laid as the document says, or refused with its error, walked: it answers true and turns nothing that was there. The body has at most as many bytes as a text may have. -/
import Derived.Test.YtffobfjknbgglaaRefEnc
namespace Go.Proofs.Ytffobfjknbgglaa
open Go.ChangeShapes Go.WideShapes Go.ChangeAt Go.RowKit
set_option linter.unusedVariables false
set_option linter.unusedSimpArgs false

theorem refEncode_in (W : World) (cs : List (Nat × Nat)) (k f t : UInt8) (s : ByteArray) (w : World) (h : St W cs w) :
    Calls Try.prog 11 #[.agg #[.int .u8 (k.toNat : Int), .int .u8 (f.toNat : Int), .int .u8 (t.toNat : Int), .string s]] w fun e w' => e = .returned (.tuple #[.string (encS k f t s).1, .int .i64 ((encS k f t s).2 : Int)]) ∧ St W cs w' ∧ Bx w w' :=
  (refEncode_any k f t s w).mono fun _ _ ⟨he, hK⟩ => ⟨he, st_kept h hK, bx_kept hK⟩
theorem st_drew {W : World} {cs : List (Nat × Nat)} {w : World} (h : St W cs w) : St W cs w.drew := h
theorem box_drew {X : Nat} {k f t : Int} {s : ByteArray} {w : World} (h : Box X k f t s w) : Box X k f t s w.drew := h
set_option maxHeartbeats 3200000 in
set_option maxRecDepth 100000 in
theorem encodes_walk (k f t : UInt8) (a : ByteArray) (ha0 : a.size ≤ maxLen) (w : World) :
    Calls Try.prog 3 #[frameV k f t a] w fun e w' => e = .returned (.bool true) ∧ Kept w w' := by
  unfold frameV
  clear ha0
  have S0 : St w [] (w.alloc (.cells #[.int .u8 (k.toNat : Int), .int .u8 (f.toNat : Int), .int .u8 (t.toNat : Int), .string a] 23)) := st_alloc (St.start w)
  by_cases h1 : (5000 : Int) < (a.size : Int)
  · go_enter Try.func3, Try.ntmps3
    go_wp2_with fail
    refine (fixed_in w [] _ S0).mono ?_
    rintro e w1 ⟨rfl, S1, -⟩
    go_wp2_with fail
    go_ret
    exact ⟨rfl, S1.1⟩
  have bx0 := box_new w (k.toNat : Int) (f.toNat : Int) (t.toNat : Int) a (0, 0)
  go_enter Try.func3, Try.ntmps3
  go_wp2_with fail
  generalize w.alloc (.cells #[.int .u8 (k.toNat : Int), .int .u8 (f.toNat : Int), .int .u8 (t.toNat : Int), .string a] 23) = w0 at *
  generalize hX : w.heap.size = X at *
  clear hX
  have bx1 := box_drew bx0
  have C1 := bx1.2
  have S1 : St w [] w0.drew := S0
  clear S0 bx0
  go_region_held3 (fun w' => w'.cell? ⟨X, 0, none⟩ = some (.int .u8 (k.toNat : Int)) ∧ w'.cell? ⟨X, 1, none⟩ = some (.int .u8 (f.toNat : Int)) ∧ w'.cell? ⟨X, 2, none⟩ = some (.int .u8 (t.toNat : Int)) ∧ w'.cell? ⟨X, 3, none⟩ = some (.string a)) (with_reducible assumption) (first
    | (go_at_call 9; refine (new_in w [] _ S1).mono ?_; rintro e w2 ⟨c, b, rfl, S2, B2⟩; have bx2 := B2 _ _ _ _ _ bx1; have C2 := bx2.2)
    | (go_at_call 10; refine (encode_in w [(c, b)] c b (by simp) k f t a _ S2).mono ?_; rintro e w3 ⟨rfl, S3, B3⟩; have bx3 := B3 _ _ _ _ _ bx2; have C3 := bx3.2))
  have hRE := fun w1 => refEncode_in w [(c, b)] k f t a w1
  generalize encS k f t a = E at *
  obtain ⟨T, E⟩ := E
  obtain ⟨x0, x1, x2, x3⟩ := C3
  clear C1 C2 S1 S2 B2 B3 bx1 bx2
  go_wp2_with fail
  refine (hRE _ S3).mono ?_
  rintro e w4 ⟨rfl, S4, -⟩
  clear hRE S3 bx3 x0 x1 x2 x3
  go_wp2_with fail
  refine (fixed_in w [(c, b)] _ S4).mono ?_
  rintro e w5 ⟨rfl, S5, -⟩
  go_wp2_with fail
  go_ret
  exact ⟨by simp, S5.1⟩
end Go.Proofs.Ytffobfjknbgglaa
