/- The program's calls in the state of a law (codecs of its own, frames in memory of its own), and the fixed examples of the chapter: the law's own function of no argument answers true and turns nothing that was there. Texts have at most 2^47 bytes. -/
import Derived.Test.YtffobfjknbgglaaDecode
namespace Go.Proofs.Ytffobfjknbgglaa
open Go.ChangeShapes Go.WideShapes Go.ChangeAt Go.RowKit
set_option linter.unusedVariables false
set_option linter.unusedSimpArgs false

def dec (s : ByteArray) : UInt8 × UInt8 × UInt8 × ByteArray :=
  if why s.data.toList = 0 then (at_ s.data.toList 1, at_ s.data.toList 2, at_ s.data.toList 3, bodyOf s) else (0, 0, 0, ⟨#[]⟩)
theorem decV_dec (s : ByteArray) : decV s = frameV (dec s).1 (dec s).2.1 (dec s).2.2.1 (dec s).2.2.2 := by
  unfold decV dec
  split <;> rfl
/- Frames in memory stay. -/
def Bx (w w' : World) : Prop := ∀ X k f t s, Box X k f t s w → Box X k f t s w'
theorem bx_kept {w w' : World} (h : Kept w w') : Bx w w' := fun _ _ _ _ _ hB => box_kept hB h
theorem bx_trans {u v w : World} (h : Bx u v) (k : Bx v w) : Bx u w := fun _ _ _ _ _ hB => k _ _ _ _ _ (h _ _ _ _ _ hB)
theorem st_alloc {W : World} {cs : List (Nat × Nat)} {w : World} {o : Obj} (h : St W cs w) : St W cs (w.alloc o) := st_below h ((Below.refl _ w).alloc (Nat.le_refl _) _)
theorem bx_alloc {w : World} {o : Obj} : Bx w (w.alloc o) := bx_kept (kept_below ((Below.refl _ w).alloc (Nat.le_refl _) _))
theorem encode_in (W : World) (cs : List (Nat × Nat)) (c b : Nat) (hm : (c, b) ∈ cs) (k f t : UInt8) (s : ByteArray) (w : World) (h : St W cs w) :
    Calls Try.prog 10 #[.pointer (some ⟨c, 0, none⟩), .agg #[.int .u8 (k.toNat : Int), .int .u8 (f.toNat : Int), .int .u8 (t.toNat : Int), .string s]] w fun e w' => e = .returned (.tuple #[.string (encS k f t s).1, .int .i64 ((encS k f t s).2 : Int)]) ∧ St W cs w' ∧ Bx w w' :=
  (encode_any c b k f t s w (h.2 c b hm).2).mono fun _ _ ⟨he, hT⟩ => ⟨he, st_turn h hm hT, fun _ _ _ _ _ hB => box_turn hB (h.2 c b hm).2.2.2.2 hT⟩
theorem decode_in (W : World) (cs : List (Nat × Nat)) (c b : Nat) (hm : (c, b) ∈ cs) (s : ByteArray) (hs : s.size ≤ 140737488355328) (w : World) (h : St W cs w) :
    Calls Try.prog 12 #[.pointer (some ⟨c, 0, none⟩), .string s] w fun e w' => e = .returned (.tuple #[.agg #[.int .u8 ((dec s).1.toNat : Int), .int .u8 ((dec s).2.1.toNat : Int), .int .u8 ((dec s).2.2.1.toNat : Int), .string (dec s).2.2.2], .int .i64 (why s.data.toList : Int)]) ∧ St W cs w' ∧ Bx w w' := by
  refine (decode_any c b s hs w (h.2 c b hm).2).mono fun _ _ ⟨he, hT⟩ => ⟨?_, st_turn h hm hT, fun _ _ _ _ _ hB => box_turn hB (h.2 c b hm).2.2.2.2 hT⟩
  rw [he, decV_dec]; rfl
theorem new_in (W : World) (cs : List (Nat × Nat)) (w : World) (h : St W cs w) :
    Calls Try.prog 9 #[] w fun e w' => ∃ c b, e = .returned (.pointer (some ⟨c, 0, none⟩)) ∧ St W ((c, b) :: cs) w' ∧ Bx w w' :=
  (New_in W cs w h).mono fun _ _ ⟨c, b, he, hS, hK⟩ => ⟨c, b, he, hS, bx_kept hK⟩

theorem more_ab : more 0 [1, 5, 1, 2, 0, 0, 0, 2, 97, 98] = 3241466188 := by decide +kernel
theorem lay_ab : lay 5 1 2 [97, 98] = [1, 5, 1, 2, 0, 0, 0, 2, 97, 98, 193, 52, 217, 76] := by
  have e : front 5 1 2 [97, 98] = [1, 5, 1, 2, 0, 0, 0, 2, 97, 98] := by decide +kernel
  rw [lay, e, more_ab]
  decide +kernel
theorem fit_ab : fit 5 1 2 := by decide +kernel
theorem enc_ab : encS 5 1 2 ⟨#[97, 98]⟩ = (⟨#[1, 5, 1, 2, 0, 0, 0, 2, 97, 98, 193, 52, 217, 76]⟩, 0) := by
  unfold encS
  rw [if_neg (by decide), if_pos fit_ab]
  have e : lay 5 1 2 (⟨#[97, 98]⟩ : ByteArray).data.toList = [1, 5, 1, 2, 0, 0, 0, 2, 97, 98, 193, 52, 217, 76] := lay_ab
  rw [e]
theorem why_ab : why (⟨#[1, 5, 1, 2, 0, 0, 0, 2, 97, 98, 193, 52, 217, 76]⟩ : ByteArray).data.toList = 0 := by
  have := why_lay 5 1 2 [97, 98] fit_ab (by decide)
  rw [lay_ab] at this
  exact this
theorem dec_ab : dec ⟨#[1, 5, 1, 2, 0, 0, 0, 2, 97, 98, 193, 52, 217, 76]⟩ = (5, 1, 2, ⟨#[97, 98]⟩) := by
  unfold dec
  rw [if_pos why_ab]
  have : bodyOf ⟨#[1, 5, 1, 2, 0, 0, 0, 2, 97, 98, 193, 52, 217, 76]⟩ = ⟨#[97, 98]⟩ := by
    unfold bodyOf
    apply ByteArray.ext
    decide +kernel
  rw [this]
  rfl
theorem why_eleven : why (⟨#[49, 50, 51, 52, 53, 54, 55, 56, 57, 48, 49]⟩ : ByteArray).data.toList = 2 := by decide +kernel
theorem dec_eleven : dec ⟨#[49, 50, 51, 52, 53, 54, 55, 56, 57, 48, 49]⟩ = (0, 0, 0, ⟨#[]⟩) := by
  unfold dec
  rw [why_eleven]
  rfl
theorem encode_ab (W : World) (cs : List (Nat × Nat)) (c b : Nat) (hm : (c, b) ∈ cs) (w : World) (h : St W cs w) :
    Calls Try.prog 10 #[.pointer (some ⟨c, 0, none⟩), .agg #[.int .u8 5, .int .u8 1, .int .u8 2, .string ⟨#[97, 98]⟩]] w fun e w' => e = .returned (.tuple #[.string ⟨#[1, 5, 1, 2, 0, 0, 0, 2, 97, 98, 193, 52, 217, 76]⟩, .int .i64 0]) ∧ St W cs w' ∧ Bx w w' := by
  have := encode_in W cs c b hm 5 1 2 ⟨#[97, 98]⟩ w h
  rw [enc_ab] at this
  exact this
theorem decode_ab (W : World) (cs : List (Nat × Nat)) (c b : Nat) (hm : (c, b) ∈ cs) (w : World) (h : St W cs w) :
    Calls Try.prog 12 #[.pointer (some ⟨c, 0, none⟩), .string ⟨#[1, 5, 1, 2, 0, 0, 0, 2, 97, 98, 193, 52, 217, 76]⟩] w fun e w' => e = .returned (.tuple #[.agg #[.int .u8 5, .int .u8 1, .int .u8 2, .string ⟨#[97, 98]⟩], .int .i64 0]) ∧ St W cs w' ∧ Bx w w' := by
  have := decode_in W cs c b hm ⟨#[1, 5, 1, 2, 0, 0, 0, 2, 97, 98, 193, 52, 217, 76]⟩ (by decide) w h
  rw [dec_ab, why_ab] at this
  exact this
theorem decode_eleven (W : World) (cs : List (Nat × Nat)) (c b : Nat) (hm : (c, b) ∈ cs) (w : World) (h : St W cs w) :
    Calls Try.prog 12 #[.pointer (some ⟨c, 0, none⟩), .string ⟨#[49, 50, 51, 52, 53, 54, 55, 56, 57, 48, 49]⟩] w fun e w' => e = .returned (.tuple #[.agg #[.int .u8 0, .int .u8 0, .int .u8 0, .string ⟨#[]⟩], .int .i64 2]) ∧ St W cs w' ∧ Bx w w' := by
  have := decode_in W cs c b hm ⟨#[49, 50, 51, 52, 53, 54, 55, 56, 57, 48, 49]⟩ (by decide) w h
  rw [dec_eleven, why_eleven] at this
  exact this
set_option maxHeartbeats 1600000 in
set_option maxRecDepth 100000 in
theorem fixed_any (w : World) : Calls Try.prog 8 #[] w fun e w' => e = .returned (.bool true) ∧ Kept w w' := by
  have S0 : St w [] w := St.start w
  have hz := zero23
  go_enter Try.func8, Try.ntmps8
  go_wp2_with fail
  refine (new_in w [] _ S0).mono ?_
  rintro e w1 ⟨c, b, rfl, S1, -⟩
  go_wp2_with fail
  refine (encode_ab w [(c, b)] c b (by simp) _ S1).mono ?_
  rintro e w2 ⟨rfl, S2, -⟩
  clear S0 S1
  go_wp2_with fail
  refine (decode_ab w [(c, b)] c b (by simp) _ S2).mono ?_
  rintro e w3 ⟨rfl, S3, -⟩
  clear S2
  go_wp2_with fail
  have hb3 := box_new w3 5 1 2 ⟨#[97, 98]⟩ (0, 0)
  have S4 : St w [(c, b)] (w3.alloc (.cells #[.int .u8 5, .int .u8 1, .int .u8 2, .string ⟨#[97, 98]⟩] 23)) := st_alloc S3
  generalize w3.alloc (.cells #[.int .u8 5, .int .u8 1, .int .u8 2, .string ⟨#[97, 98]⟩] 23) = w4 at *
  generalize w3.heap.size = Y at *
  refine (decode_eleven w [(c, b)] c b (by simp) _ S4).mono ?_
  rintro e w5 ⟨rfl, S5, B5⟩
  obtain ⟨-, k0, k1, k2, k3⟩ := bx_alloc (o := .cells #[.int .u8 0, .int .u8 0, .int .u8 0, .string ⟨#[]⟩] 23) _ _ _ _ _ (B5 _ _ _ _ _ hb3)
  have S6 : St w [(c, b)] (w5.alloc (.cells #[.int .u8 0, .int .u8 0, .int .u8 0, .string ⟨#[]⟩] 23)) := st_alloc S5
  have hsl : ∀ w, (Instr.slice 9 (.string ⟨#[1, 5, 1, 2, 0, 0, 0, 2, 97, 98, 193, 52, 217, 76]⟩) none (some (.int .i64 10)) none).run Try.prog w = .ok (.string ⟨#[1, 5, 1, 2, 0, 0, 0, 2, 97, 98]⟩) w := fun w => by
    rw [run_slice_string_to_if (P := Try.prog) w 9 _ .i64 10 Try.underlying9, if_pos ⟨by decide, by decide⟩]
    rfl
  clear S3 S4 S5 B5 hb3
  go_wp2_with fail
  go_ret
  exact ⟨rfl, S6.1⟩
theorem fixed_in (W : World) (cs : List (Nat × Nat)) (w : World) (h : St W cs w) : Calls Try.prog 8 #[] w fun e w' => e = .returned (.bool true) ∧ St W cs w' ∧ Bx w w' :=
  (fixed_any w).mono fun _ _ ⟨he, hK⟩ => ⟨he, st_kept h hK, bx_kept hK⟩
end Go.Proofs.Ytffobfjknbgglaa
