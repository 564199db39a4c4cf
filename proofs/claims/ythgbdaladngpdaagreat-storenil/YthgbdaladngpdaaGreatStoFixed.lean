/- The chapter's example, walked; the calls of a nil store; the law that a nil store has nothing. -/
import Derived.Test.YthgbdaladngpdaaGreatStoPurge
namespace Go.Proofs.YthgbdaladngpdaaGreat
open Go.ChangeShapes Go.WideShapes Go.ChangeAt Go.RowKit
open Go.Proofs.YthgbdaladngpdaaGreat.Whl (Tn tn_kept tn_refl tn_trans tn_set tn_alloc at_tn kept_tn It)
set_option linter.unusedVariables false
set_option linter.unusedSimpArgs false
set_option maxRecDepth 100000

def exA : R := ⟨⟨#[97]⟩, ⟨5, 0, 0⟩, 2, 0, 0, ⟨#[]⟩⟩
def exB : R := ⟨⟨#[98]⟩, ⟨4, 0, 0⟩, 2, 0, 0, ⟨#[]⟩⟩
def exC : Cf := ⟨1, 100, 10⟩
def ex1 : MS := ⟨[exA], fun _ => zero, 0⟩
def ex2 : MS := ⟨[exB], raise (fun _ => zero) exA, 1⟩
theorem exC_may : exC.may := by unfold Cf.may exC; decide
theorem exA_ok : exA.ok := ⟨by decide, ⟨by decide, by decide, by decide, by decide, by decide, by decide⟩, by decide, by decide, by decide, by decide⟩
theorem exB_ok : exB.ok := ⟨by decide, ⟨by decide, by decide, by decide, by decide, by decide, by decide⟩, by decide, by decide, by decide, by decide⟩
theorem ab_ne : exA.key ≠ exB.key := by
  intro e
  have := congrArg (fun s : ByteArray => s.data.toList) e
  simp [exA, exB] at this
theorem ba_ne : exB.key ≠ exA.key := Ne.symm ab_ne
theorem mayA : mayR exA = true := by rfl
theorem mayB : mayR exB = true := by rfl
theorem lenA : lenR exA = 1 := rfl
theorem lenB : lenR exB = 1 := rfl
theorem k1 : putK exC MS0 exA 5 = 100 := by
  unfold putK
  rw [if_neg (by rw [mayA]; simp), if_neg (by simp [exA, exC])]
  show (if lt zero exA.s = true then (if exC.B < lenR exA then 6 else 100) else 8) = 100
  rw [if_pos (by rfl), lenA, if_neg (by simp [exC])]
theorem s1_is : putS exC MS0 exA 5 = ex1 := by
  rw [(show putS exC MS0 exA 5 = newer exC MS0 exA by unfold putS; rw [if_pos k1])]
  unfold newer
  have e : woK MS0.L exA.key = [] := rfl
  rw [e, room_stop (by unfold over; rw [lenA]; simp [exC, sizeL])]
  rfl
theorem k2 : putK exC ex1 exB 5 = 100 := by
  unfold putK
  rw [if_neg (by rw [mayB]; simp), if_neg (by simp [exB, exC])]
  have e : findK ex1.L exB.key = none := find_none.2 (fun r hr => by simp [ex1] at hr; rw [hr]; exact ab_ne)
  rw [e]
  show (if lt zero exB.s = true then (if exC.B < lenR exB then 6 else 100) else 8) = 100
  rw [if_pos (by rfl), lenB, if_neg (by simp [exC])]
theorem s2_is : putS exC ex1 exB 5 = ex2 := by
  rw [(show putS exC ex1 exB 5 = newer exC ex1 exB by unfold putS; rw [if_pos k2])]
  unfold newer
  have e : woK ex1.L exB.key = [] ++ [exA] := wo_none (fun r hr => by simp [ex1] at hr; rw [hr]; exact ab_ne)
  rw [e, room_on (by unfold over; left; simp [exC]), room_stop (by unfold over; rw [lenB]; simp [exC, sizeL])]
  rfl
theorem k3 : putK exC ex2 exA 5 = 8 := by
  unfold putK
  rw [if_neg (by rw [mayA]; simp), if_neg (by simp [exA, exC])]
  have e : findK ex2.L exA.key = none := find_none.2 (fun r hr => by simp [ex2] at hr; rw [hr]; exact ba_ne)
  rw [e]
  show (if lt (raise (fun _ => zero) exA (rg exA.key)) exA.s = true then (if exC.B < lenR exA then 6 else 100) else 8) = 8
  have e2 : raise (fun _ => zero) exA (rg exA.key) = exA.s := by unfold raise; rw [if_pos ⟨rfl, by rfl⟩]
  rw [e2, if_neg (by decide)]
theorem s4_is : purgeS exC ex2 14 = ⟨[], raise (fun _ => zero) exA, 1⟩ := rfl
set_option maxHeartbeats 1600000 in
theorem fixed_any (w : World) : Calls Tryz.prog 11 #[] w fun e w' => e = .returned (.bool true) ∧ Kept w w' := by
  have hz := zero27
  have hz3 := zero33
  go_enter Tryz.func11, Tryz.ntmps11
  go_wp2_with fail
  refine (show Calls Tryz.prog 9 #[.int .i64 1, .int .i64 100, .int .i64 10] _ _ from snew_any exC exC_may _).mono ?_
  rintro e w1 ⟨X, F, rfl, k1', hF, h1⟩
  have HF := hid hF
  have HK1 := hid k1'
  have HS1 := hid h1
  clear k1' hF h1
  have HK3 := hid (kept_alloc (kept_alloc HK1.out (.cells #[.string ⟨#[97]⟩, .int .u64 5, .int .u32 0, .int .u8 0, .int .u8 2, .int .u32 0, .int .u64 0, .string ⟨#[]⟩] 42)) (.cells #[.string ⟨#[98]⟩, .int .u64 4, .int .u32 0, .int .u8 0, .int .u8 2, .int .u32 0, .int .u64 0, .string ⟨#[]⟩] 42))
  have HS3 := hid (st_kept HS1.out (kept_alloc (kept_alloc (kept_refl w1) (.cells #[.string ⟨#[97]⟩, .int .u64 5, .int .u32 0, .int .u8 0, .int .u8 2, .int .u32 0, .int .u64 0, .string ⟨#[]⟩] 42)) (.cells #[.string ⟨#[98]⟩, .int .u64 4, .int .u32 0, .int .u8 0, .int .u8 2, .int .u32 0, .int .u64 0, .string ⟨#[]⟩] 42)))
  have HA3 := hid (at_alloc (at_new w1 #[.string ⟨#[97]⟩, .int .u64 5, .int .u32 0, .int .u8 0, .int .u8 2, .int .u32 0, .int .u64 0, .string ⟨#[]⟩] 42) (.cells #[.string ⟨#[98]⟩, .int .u64 4, .int .u32 0, .int .u8 0, .int .u8 2, .int .u32 0, .int .u64 0, .string ⟨#[]⟩] 42))
  have HB3 := hid (at_new (w1.alloc (.cells #[.string ⟨#[97]⟩, .int .u64 5, .int .u32 0, .int .u8 0, .int .u8 2, .int .u32 0, .int .u64 0, .string ⟨#[]⟩] 42)) #[.string ⟨#[98]⟩, .int .u64 4, .int .u32 0, .int .u8 0, .int .u8 2, .int .u32 0, .int .u64 0, .string ⟨#[]⟩] 42)
  have HnA : Hid (¬ F w1.heap.size) := hid (fun hf => by have := st_low HS1.out _ hf; omega)
  have HnB : Hid (¬ F (w1.alloc (.cells #[.string ⟨#[97]⟩, .int .u64 5, .int .u32 0, .int .u8 0, .int .u8 2, .int .u32 0, .int .u64 0, .string ⟨#[]⟩] 42)).heap.size) := hid (fun hf => by have := st_low HS1.out _ hf; simp at this; omega)
  simp only [World.size_alloc] at HB3 HnB
  clear HS1 HK1
  go_wp2_with fail
  generalize (w1.alloc (.cells #[.string ⟨#[97]⟩, .int .u64 5, .int .u32 0, .int .u8 0, .int .u8 2, .int .u32 0, .int .u64 0, .string ⟨#[]⟩] 42)).alloc (.cells #[.string ⟨#[98]⟩, .int .u64 4, .int .u32 0, .int .u8 0, .int .u8 2, .int .u32 0, .int .u64 0, .string ⟨#[]⟩] 42) = w3 at *
  generalize w1.heap.size = A at *
  generalize A + 1 = B at *
  have HLA : Hid (A < w3.heap.size ∧ B < w3.heap.size) := hid ⟨at_lt HA3.out, at_lt HB3.out⟩
  have hP1' : Calls Tryz.prog 14 #[.pointer (some ⟨X, 0, none⟩), .agg #[.string ⟨#[97]⟩, .int .u64 5, .int .u32 0, .int .u8 0, .int .u8 2, .int .u32 0, .int .u64 0, .string ⟨#[]⟩], .int .u64 5] w3 (PutC F X exC MS0 exA 5 w3) := put_any exC_may exA (by decide) (by decide) exA_ok 5 (by decide) (by decide) w3 HS3.out
  refine hP1'.mono ?_
  rintro e w4 ⟨rfl, F4, t4, h4⟩
  obtain ⟨b1, b2, _⟩ := put_100 k1
  rw [b1, b2]
  rw [s1_is] at h4
  have HS4 := hid h4
  have HK4 := hid (kept_tn HK3.out HF.out t4.1)
  have HF4 : Hid (∀ k, F4 k → w.heap.size ≤ k) := hid (fun k hk => by
    rcases t4.2 k hk with z | z
    · exact HF.out k z
    · exact Nat.le_trans HK3.out.2 z)
  have HnA4 : Hid (¬ F4 A) := hid (fun hf => by
    rcases t4.2 A hf with z | z
    · exact HnA.out z
    · have := HLA.out; omega)
  have HnB4 : Hid (¬ F4 B) := hid (fun hf => by
    rcases t4.2 B hf with z | z
    · exact HnB.out z
    · have := HLA.out; omega)
  have HA4 := hid (at_tn HA3.out t4.1 HnA.out)
  have HB4 := hid (at_tn HB3.out t4.1 HnB.out)
  obtain ⟨d0, d1, d2, d3, d4, d5, d6, d7, _⟩ := at_cells8 HB4.out
  clear hP1' t4 h4 b1 b2 HS3 HK3 HA3 HB3 HF HnA HnB HLA
  have hP2 : Calls Tryz.prog 14 #[.pointer (some ⟨X, 0, none⟩), .agg #[.string ⟨#[98]⟩, .int .u64 4, .int .u32 0, .int .u8 0, .int .u8 2, .int .u32 0, .int .u64 0, .string ⟨#[]⟩], .int .u64 5] w4 (PutC F4 X exC ex1 exB 5 w4) := put_any exC_may exB (by decide) (by decide) exB_ok 5 (by decide) (by decide) w4 HS4.out
  go_wp2_with fail
  refine hP2.mono ?_
  rintro e w5 ⟨rfl, F5, t5, h5⟩
  obtain ⟨b1, b2, _⟩ := put_100 k2
  rw [b1, b2]
  rw [s2_is] at h5
  have HS5 := hid h5
  have HK5 := hid (kept_tn HK4.out HF4.out t5.1)
  have HF5 : Hid (∀ k, F5 k → w.heap.size ≤ k) := hid (fun k hk => by
    rcases t5.2 k hk with z | z
    · exact HF4.out k z
    · exact Nat.le_trans HK4.out.2 z)
  have HA5 := hid (at_tn HA4.out t5.1 HnA4.out)
  obtain ⟨a0, a1, a2, a3, a4, a5, a6, a7, _⟩ := at_cells8 HA5.out
  clear hP2 t5 h5 b1 b2 HS4 HK4 HA4 HB4 HF4 HnA4 HnB4 d0 d1 d2 d3 d4 d5 d6 d7
  have hP3 : Calls Tryz.prog 14 #[.pointer (some ⟨X, 0, none⟩), .agg #[.string ⟨#[97]⟩, .int .u64 5, .int .u32 0, .int .u8 0, .int .u8 2, .int .u32 0, .int .u64 0, .string ⟨#[]⟩], .int .u64 5] w5 (PutC F5 X exC ex2 exA 5 w5) := put_any exC_may exA (by decide) (by decide) exA_ok 5 (by decide) (by decide) w5 HS5.out
  go_wp2_with fail
  refine hP3.mono ?_
  rintro e w6 ⟨rfl, F6, t6, h6⟩
  obtain ⟨b1, b2, b3⟩ := put_of k3 (by omega)
  rw [b1, b2]
  rw [b3] at h6
  have HS6 := hid h6
  have HK6 := hid (kept_tn HK5.out HF5.out t6.1)
  have HF6 : Hid (∀ k, F6 k → w.heap.size ≤ k) := hid (fun k hk => by
    rcases t6.2 k hk with z | z
    · exact HF5.out k z
    · exact Nat.le_trans HK5.out.2 z)
  clear hP3 t6 h6 b1 b2 b3 HS5 HK5 HA5 HF5 a0 a1 a2 a3 a4 a5 a6 a7
  go_wp2_with fail
  refine (purge_any exC_may 14 (by decide) w6 HS6.out).mono ?_
  rintro e w7 ⟨rfl, t7, h7⟩
  rw [s4_is] at h7
  have e7 : ((ex2.L.length - (purgeS exC ex2 14).L.length : Nat) : Int) = 1 := rfl
  rw [e7]
  have HS7 := hid h7
  have HK7 := hid (kept_tn HK6.out HF6.out t7)
  clear t7 h7 e7 HS6 HK6 HF6
  go_wp2_with fail
  refine (show Calls Tryz.prog 22 #[.pointer (some ⟨X, 0, none⟩)] w7 (fun e w' => e = .returned (.int .i64 0) ∧ w' = w7) from len_st w7 HS7.out).mono ?_
  rintro e w8 ⟨rfl, rfl⟩
  go_wp2_with fail
  refine (show Calls Tryz.prog 25 #[.pointer (some ⟨X, 0, none⟩)] w8 (fun e w' => e = .returned (.int .i64 1) ∧ w' = w8) from ev_st w8 HS7.out).mono ?_
  rintro e w9 ⟨rfl, rfl⟩
  go_wp2_with fail
  go_ret
  exact ⟨rfl, HK7.out⟩
end Go.Proofs.YthgbdaladngpdaaGreat
