/- The contract of the landed Take. At most 100 nodes; texts have at most 3000 bytes. -/
import Derived.Test.YtjmldnbepajnoaaRAkMem
import Derived.Test.YtjmldnbepajnoaaRAkCode3
import Derived.Test.YtjmldnbepajnoaaRAkIs
import Derived.Deep.CutBlock
import Derived.Deep.DeepCutAuto
namespace Go.Proofs.YtjmldnbepajnoaaR
open Go.ChangeShapes Go.WideShapes Go.ChangeAt Go.RowKit
set_option linter.unusedVariables false
set_option linter.unusedSimpArgs false
set_option maxRecDepth 100000

theorem put_again {α : Type} {enc : α → List Value} {c T B q n cap : Nat} {w : World} {xs : List α} (he : Enc enc c) {i j : Nat} {x x' : α} {u : Value} (h : Og enc c T w B (.slice (some ⟨q, 0, none⟩) n cap) (xs.set i x)) (hi : i < xs.length) (hj : j < c) (hx' : enc x' = (enc x).set j u) : Og enc c T (w.setCell ⟨q, i * c + j, none⟩ u) B (.slice (some ⟨q, 0, none⟩) n cap) (xs.set i x') := by
  have h9 := og_put (i := i) (j := j) (x := x) (x' := x') (u := u) he h (by rw [List.getElem?_set_self hi]) hj hx'
  rwa [List.set_set] at h9
def setP (w : World) (G i : Nat) (b0 b1 : Bool) (r : R) : World := (((((((((w.setCell ⟨G, i * 12 + 2, none⟩ (.bool b0)).setCell ⟨G, i * 12 + 3, none⟩ (.bool b1)).setCell ⟨G, i * 12 + 4, none⟩ (.string r.key)).setCell ⟨G, i * 12 + 5, none⟩ (.int .u64 r.s.p)).setCell ⟨G, i * 12 + 6, none⟩ (.int .u32 r.s.l)).setCell ⟨G, i * 12 + 7, none⟩ (.int .u8 r.s.n)).setCell ⟨G, i * 12 + 8, none⟩ (.int .u8 r.kind)).setCell ⟨G, i * 12 + 9, none⟩ (.int .u32 r.flags)).setCell ⟨G, i * 12 + 10, none⟩ (.int .u64 r.exp)).setCell ⟨G, i * 12 + 11, none⟩ (.string r.body)
theorem og_setP {B G n cap : Nat} {w : World} {xs : List Ad} {i : Nat} {m : Int} {c b0 b1 d0 d1 : Bool} {r s : R} (h : Og encA 12 54 w B (.slice (some ⟨G, 0, none⟩) n cap) (xs.set i ⟨m, c, ⟨d0, d1, s⟩⟩)) (hi : i < xs.length) : Og encA 12 54 (setP w G i b0 b1 r) B (.slice (some ⟨G, 0, none⟩) n cap) (xs.set i ⟨m, c, ⟨b0, b1, r⟩⟩) := by
  have h0 := put_again (j := 2) (x' := ⟨m, c, ⟨b0, d1, s⟩⟩) (u := .bool b0) encA_ok h hi (by decide) rfl
  have h1 := put_again (j := 3) (x' := ⟨m, c, ⟨b0, b1, s⟩⟩) (u := .bool b1) encA_ok h0 hi (by decide) rfl
  have h2 := put_again (j := 4) (x' := ⟨m, c, ⟨b0, b1, ⟨r.key, s.s, s.kind, s.flags, s.exp, s.body⟩⟩⟩) (u := .string r.key) encA_ok h1 hi (by decide) rfl
  have h3 := put_again (j := 5) (x' := ⟨m, c, ⟨b0, b1, ⟨r.key, ⟨r.s.p, s.s.l, s.s.n⟩, s.kind, s.flags, s.exp, s.body⟩⟩⟩) (u := .int .u64 r.s.p) encA_ok h2 hi (by decide) rfl
  have h4 := put_again (j := 6) (x' := ⟨m, c, ⟨b0, b1, ⟨r.key, ⟨r.s.p, r.s.l, s.s.n⟩, s.kind, s.flags, s.exp, s.body⟩⟩⟩) (u := .int .u32 r.s.l) encA_ok h3 hi (by decide) rfl
  have h5 := put_again (j := 7) (x' := ⟨m, c, ⟨b0, b1, ⟨r.key, r.s, s.kind, s.flags, s.exp, s.body⟩⟩⟩) (u := .int .u8 r.s.n) encA_ok h4 hi (by decide) rfl
  have h6 := put_again (j := 8) (x' := ⟨m, c, ⟨b0, b1, ⟨r.key, r.s, r.kind, s.flags, s.exp, s.body⟩⟩⟩) (u := .int .u8 r.kind) encA_ok h5 hi (by decide) rfl
  have h7 := put_again (j := 9) (x' := ⟨m, c, ⟨b0, b1, ⟨r.key, r.s, r.kind, r.flags, s.exp, s.body⟩⟩⟩) (u := .int .u32 r.flags) encA_ok h6 hi (by decide) rfl
  have h8 := put_again (j := 10) (x' := ⟨m, c, ⟨b0, b1, ⟨r.key, r.s, r.kind, r.flags, r.exp, s.body⟩⟩⟩) (u := .int .u64 r.exp) encA_ok h7 hi (by decide) rfl
  exact put_again (j := 11) (x' := ⟨m, c, ⟨b0, b1, r⟩⟩) (u := .string r.body) encA_ok h8 hi (by decide) rfl
theorem turn_setP {w u : World} {G i : Nat} (b0 b1 : Bool) (r : R) (h : Turn G w u) : Turn G w (setP u G i b0 b1 r) :=
  turn_set (turn_set (turn_set (turn_set (turn_set (turn_set (turn_set (turn_set (turn_set (turn_set h _ _) _ _) _ _) _ _) _ _) _ _) _ _) _ _) _ _) _ _
theorem tn_setP (u : World) (G i : Nat) (b0 b1 : Bool) (r : R) : Tn (fun b => b = G) u (setP u G i b0 b1 r) := tn_turn (turn_setP b0 b1 r (Turn.refl G u))
theorem cells10 {w : World} {X T : Nat} {a0 a1 a2 a3 a4 a5 a6 a7 a8 a9 : Value} (h : At w X #[a0, a1, a2, a3, a4, a5, a6, a7, a8, a9] T) : w.cell? ⟨X, 0, none⟩ = some a0 ∧ w.cell? ⟨X, 1, none⟩ = some a1 ∧ w.cell? ⟨X, 2, none⟩ = some a2 ∧ w.cell? ⟨X, 3, none⟩ = some a3 ∧ w.cell? ⟨X, 4, none⟩ = some a4 ∧ w.cell? ⟨X, 5, none⟩ = some a5 ∧ w.cell? ⟨X, 6, none⟩ = some a6 ∧ w.cell? ⟨X, 7, none⟩ = some a7 ∧ w.cell? ⟨X, 8, none⟩ = some a8 ∧ w.cell? ⟨X, 9, none⟩ = some a9 :=
  ⟨at_cell h 0, at_cell h 1, at_cell h 2, at_cell h 3, at_cell h 4, at_cell h 5, at_cell h 6, at_cell h 7, at_cell h 8, at_cell h 9⟩
theorem cells9 {w : World} {X T : Nat} {a0 a1 a2 a3 a4 a5 a6 a7 a8 a9 : Value} (h : At w X #[a0, a1, a2, a3, a4, a5, a6, a7, a8, a9] T) : w.cell? ⟨X, 1, none⟩ = some a1 ∧ w.cell? ⟨X, 2, none⟩ = some a2 ∧ w.cell? ⟨X, 3, none⟩ = some a3 ∧ w.cell? ⟨X, 4, none⟩ = some a4 ∧ w.cell? ⟨X, 5, none⟩ = some a5 ∧ w.cell? ⟨X, 6, none⟩ = some a6 ∧ w.cell? ⟨X, 7, none⟩ = some a7 ∧ w.cell? ⟨X, 8, none⟩ = some a8 ∧ w.cell? ⟨X, 9, none⟩ = some a9 := (cells10 h).2
theorem no_node {a : Aq} {n : Int} (h : ∀ (j : Nat) (q : Ad), (memL a)[j]? = some q → (q.n == n) = false) : mayT a n = false := by
  unfold mayT
  have e : inL a.l n = false := by
    rw [inL_no]
    intro hm
    obtain ⟨j, hj⟩ := List.mem_iff_getElem?.1 hm
    have := h j _ (mem_get hj)
    simp [memQ] at this
  rw [e]
  rfl
theorem fst_node {a : Aq} {n : Int} {i : Nat} (h : fstA (fun q => q.n == n) (memL a) i) : a.l[i]? = some n := by
  obtain ⟨-, ⟨q, hq, hp⟩, -⟩ := h
  unfold memL at hq
  rw [List.getElem?_map] at hq
  cases hj : a.l[i]? with
  | none => rw [hj] at hq; cases hq
  | some m =>
    rw [hj] at hq
    injection hq with hq
    subst hq
    have : m = n := by simpa [memQ] using hp
    rw [this]
def TakeE (X : Nat) (a : Aq) (F : Nat → Prop) (n : Int) (x : Rp) (w : World) (e : Ending) (w' : World) : Prop := ∃ F', e = .returned (.bool (mayT a n)) ∧ AO w' X (takeQ a n x) F' ∧ Sd F w F' w'
theorem take_same {X : Nat} {a : Aq} {F : Nat → Prop} {n : Int} {x : Rp} {w w' : World} (h : AO w X a F) (hm : mayT a n = false) (k : Kept w w') : TakeE X a F n x w (.returned (.bool false)) w' := ⟨F, by rw [hm], by rw [take_no hm]; exact ao_kept h k, sd_kept k⟩
theorem take_done {X G : Nat} {a : Aq} {F : Nat → Prop} {n : Int} {x : Rp} {w w3 w' : World} {v : Value} (hm : mayT a n = true) (hX : At w' X #[.int .u64 a.u, v] 51) (hO : Og encA 12 54 w' 0 v (memL (takeQ a n x))) (hF : ∀ b, F b ↔ (b = X ∨ v.ownBlock = some b)) (hG : v.ownBlock = some G) (k : Kept w w3) (t : Tn (fun b => b = G) w3 w') : TakeE X a F n x w (.returned (.bool true)) w' :=
  ⟨F, by rw [hm], ⟨v, by rw [(take_l a n x).2]; exact hX, hO, hF⟩, tn_comp (tn_kept k) t (fun b hb => .inl ((hF b).2 (.inr (by rw [hb, hG])))), fun b hb => .inl hb⟩
set_option maxHeartbeats 12800000 in
theorem take_is (X : Nat) (a : Aq) (F : Nat → Prop) (n : Int) (x : Rp) (w : World) (h : AO w X a F) (g : OneK a) (hx : RpOk x) : Calls Try.prog 9 #[.pointer (some ⟨X, 0, none⟩), .int .u8 n, .agg #[.bool x.has, .bool x.past, .string x.r.key, .int .u64 x.r.s.p, .int .u32 x.r.s.l, .int .u8 x.r.s.n, .int .u8 x.r.kind, .int .u32 x.r.flags, .int .u64 x.r.exp, .string x.r.body]] w (TakeE X a F n x w) := by
  obtain ⟨K, g⟩ := g
  have HG := hid g
  have HH := hid h
  obtain ⟨hs, ps, r⟩ := x
  have hx1 : r.key.size ≤ 3000 := Nat.le_trans hx.2.1 (by omega)
  have hx2 : r.body.size ≤ 3000 := hx.2.2
  have HFr := hid (fun u => fresh_any r hx1 hx2 u)
  have kn := kept_alloc (kept_refl w) (.cells #[.int .u8 n] 5)
  have an := at_new w #[.int .u8 n] 5
  obtain ⟨w1, hw1⟩ : ∃ u, w.alloc (.cells #[.int .u8 n] 5) = u := ⟨_, rfl⟩
  obtain ⟨Zn, hZn⟩ : ∃ u, w.heap.size = u := ⟨_, rfl⟩
  rw [hw1] at kn an
  rw [hZn] at an
  have kr := kept_alloc (kept_refl w1) (.cells #[.bool hs, .bool ps, .string r.key, .int .u64 r.s.p, .int .u32 r.s.l, .int .u8 r.s.n, .int .u8 r.kind, .int .u32 r.flags, .int .u64 r.exp, .string r.body] 34)
  have ar := at_new w1 #[.bool hs, .bool ps, .string r.key, .int .u64 r.s.p, .int .u32 r.s.l, .int .u8 r.s.n, .int .u8 r.kind, .int .u32 r.flags, .int .u64 r.exp, .string r.body] 34
  obtain ⟨w2, hw2⟩ : ∃ u, w1.alloc (.cells #[.bool hs, .bool ps, .string r.key, .int .u64 r.s.p, .int .u32 r.s.l, .int .u8 r.s.n, .int .u8 r.kind, .int .u32 r.flags, .int .u64 r.exp, .string r.body] 34) = u := ⟨_, rfl⟩
  obtain ⟨Zr, hZr⟩ : ∃ u, w1.heap.size = u := ⟨_, rfl⟩
  rw [hw2] at kr ar
  rw [hZr] at ar
  have aN := at_kept an kr
  have HK := hid (kept_trans kn kr)
  have HZr := hid ar
  obtain ⟨v, hX, hO, hF⟩ := h
  have HX := hid (at_kept hX HK.out)
  have HO := hid (og_stays hO HK.out)
  have HF := hid hF
  have hC := idx1 (c := .pointer (some ⟨Zn, 0, none⟩)) (p := fun q => q.n == n) (l := memL a) enters_take (by rw [mem_len]; have := g.len; omega) v w2 (rg_own encA_ok HO.out) (fun u q _ ku => takep_any n Zn 5 q u (at_kept aN ku))
  have c1 := at_cell HX.out 1
  clear hX hO hF kn an kr ar hx1 hx2 hx aN g
  go_enter Try.func9, Try.ntmps9
  go_wp2_with fail
  refine hC.mono ?_
  rintro e w3 ⟨z, rfl, hz, k3⟩
  clear hC
  have HK3 := hid (kept_trans HK.out k3)
  have HX3 := hid (at_kept HX.out k3)
  have HO3 := hid (og_stays HO.out k3)
  have HZ3 := hid (at_kept HZr.out k3)
  clear HK HX HO HZr k3 c1
  rcases hz with ⟨rfl, hno⟩ | ⟨i, rfl, hf⟩
  · have HM : Hid (mayT a n = false) := hid (no_node hno)
    clear hno
    go_wp2_with fail
    go_ret
    exact take_same HH.out HM.out HK3.out
  · have HI := hid (fst_node hf)
    have hil : i < a.l.length := (List.getElem?_eq_some_iff.1 HI.out).1
    have HL : Hid (i < (memL a).length) := hid (by rw [mem_len]; exact hil)
    obtain ⟨G, cap, rfl⟩ := og_some HO3.out (fun e => by
      subst e
      obtain ⟨a, c, e, _⟩ := og_is encA_ok HO3.out
      injection e with e1 e2
      have := HL.out
      omega)
    have hXG : G ≠ X := ao_ne HX3.out HO3.out G rfl
    have HXG : Hid (X ≠ G) := hid (fun e => hXG e.symm)
    have HZG : Hid (Zr ≠ G) := hid (fun e => own_ne HO3.out HZ3.out (by decide) G rfl e.symm)
    have hmm := mem_get HI.out
    have HMg := hid hmm
    have c1 := at_cell HX3.out 1
    obtain ⟨q0, q1, q2, q3, q4, q5, q6, q7, q8, q9, qa, qb⟩ := rg_A (rg_own encA_ok HO3.out) hmm
    simp only [Nat.zero_add] at q0 q1 q2 q3 q4 q5 q6 q7 q8 q9 qa qb
    obtain ⟨m, hm⟩ : ∃ m, (memL a).length = m := ⟨_, rfl⟩
    have hiz : (i : Int) < (m : Int) := by have := HL.out; omega
    have hi0 : decide ((i : Int) < 0) = false := by simp
    rw [hm] at c1
    have hc1 : w3.cell? ⟨G, i * 12 + 1, none⟩ = some (.bool (a.come n.toNat)) := q1
    clear q1 hf hil hmm hXG
    cases hc : a.come n.toNat with
    | true =>
      rw [hc] at hc1
      have HM : Hid (mayT a n = false) := hid (by unfold mayT; rw [hc]; simp)
      clear hc hm
      go_wp2_with fail
      go_ret
      exact take_same HH.out HM.out HK3.out
    | false =>
      rw [hc] at hc1
      have HM : Hid (mayT a n = true) := hid (by unfold mayT; rw [hc, inL_iff.2 (List.mem_of_getElem? HI.out)]; rfl)
      have HQ : Hid (memQ a n = ⟨n, false, zeroRp⟩) := hid (by unfold memQ saysB; rw [hc]; rfl)
      have HMt := hid (fun (x : Rp) => mem_take HG.out (x := x) HI.out hc)
      have cf := og_frozen HO3.out (i * 12 + 1)
      have hO4 : Og encA 12 54 (w3.setCell ⟨G, i * 12 + 1, none⟩ (.bool true)) 0 (.slice (some ⟨G, 0, none⟩) (memL a).length cap) ((memL a).set i ⟨n, true, zeroRp⟩) := og_put (i := i) (j := 1) (x := ⟨n, false, zeroRp⟩) encA_ok HO3.out (by rw [← HQ.out]; exact HMg.out) (by decide) rfl
      have hX4 := at_other HX3.out HXG.out (i * 12 + 1) (.bool true)
      have hZ4 := at_other HZ3.out HZG.out (i * 12 + 1) (.bool true)
      have HT4 := hid (tn_set w3 G (i * 12 + 1) (.bool true))
      obtain ⟨w4, hw4⟩ : ∃ u, w3.setCell ⟨G, i * 12 + 1, none⟩ (.bool true) = u := ⟨_, rfl⟩
      rw [hw4] at hO4 hX4 hZ4 HT4
      have HO4 := hid hO4
      have HX4 := hid hX4
      have HZ4 := hid hZ4
      have d1 := at_cell hX4 1
      rw [hm] at d1
      obtain ⟨z0, z1, z2, z3, z4, z5, z6, z7, z8, z9⟩ := cells10 hZ4
      clear hc hO4 hX4 hZ4 q0 q2 q3 q4 q5 q6 q7 q8 q9 qa qb
      cases hs with
      | false =>
        have HE : Hid (TakeE X a F n ⟨false, ps, r⟩ w (.returned (.bool true)) w4) := hid (take_done HM.out HX4.out (by rw [HMt.out]; exact HO4.out) HF.out rfl HK3.out HT4.out)
        clear hm
        go_wp2_with fail
        go_ret
        simp only [hw4]
        exact HE.out
      | true =>
        go_upto_region 8 with fail
        try simp only [hw4]
        have HSt : Hid (∀ u, Kept w4 u → ((u.cell? ⟨X, 1, none⟩ = some (.slice (some ⟨G, 0, none⟩) m cap)) ∧ (u.cell? ⟨Zr, 1, none⟩ = some (.bool ps)) ∧ (u.cell? ⟨Zr, 2, none⟩ = some (.string r.key)) ∧ (u.cell? ⟨Zr, 3, none⟩ = some (.int .u64 r.s.p)) ∧ (u.cell? ⟨Zr, 4, none⟩ = some (.int .u32 r.s.l)) ∧ (u.cell? ⟨Zr, 5, none⟩ = some (.int .u8 r.s.n)) ∧ (u.cell? ⟨Zr, 6, none⟩ = some (.int .u8 r.kind)) ∧ (u.cell? ⟨Zr, 7, none⟩ = some (.int .u32 r.flags)) ∧ (u.cell? ⟨Zr, 8, none⟩ = some (.int .u64 r.exp)) ∧ (u.cell? ⟨Zr, 9, none⟩ = some (.string r.body))) ∧ (u.cell? ⟨G, i * 12 + 2, none⟩ = some (.bool false) ∧ u.cell? ⟨G, i * 12 + 3, none⟩ = some (.bool false) ∧ u.cell? ⟨G, i * 12 + 4, none⟩ = some (.string ⟨#[]⟩) ∧ u.cell? ⟨G, i * 12 + 5, none⟩ = some (.int .u64 0) ∧ u.cell? ⟨G, i * 12 + 6, none⟩ = some (.int .u32 0) ∧ u.cell? ⟨G, i * 12 + 7, none⟩ = some (.int .u8 0) ∧ u.cell? ⟨G, i * 12 + 8, none⟩ = some (.int .u8 0) ∧ u.cell? ⟨G, i * 12 + 9, none⟩ = some (.int .u32 0) ∧ u.cell? ⟨G, i * 12 + 10, none⟩ = some (.int .u64 0) ∧ u.cell? ⟨G, i * 12 + 11, none⟩ = some (.string ⟨#[]⟩)) ∧ (∀ j, u.frozen? ⟨G, j, none⟩ = false) ∧ (((setP u G i true ps r).cell? ⟨X, 1, none⟩ = some (.slice (some ⟨G, 0, none⟩) m cap)) ∧ ((setP u G i true ps r).cell? ⟨Zr, 1, none⟩ = some (.bool ps)) ∧ ((setP u G i true ps r).cell? ⟨Zr, 2, none⟩ = some (.string r.key)) ∧ ((setP u G i true ps r).cell? ⟨Zr, 3, none⟩ = some (.int .u64 r.s.p)) ∧ ((setP u G i true ps r).cell? ⟨Zr, 4, none⟩ = some (.int .u32 r.s.l)) ∧ ((setP u G i true ps r).cell? ⟨Zr, 5, none⟩ = some (.int .u8 r.s.n)) ∧ ((setP u G i true ps r).cell? ⟨Zr, 6, none⟩ = some (.int .u8 r.kind)) ∧ ((setP u G i true ps r).cell? ⟨Zr, 7, none⟩ = some (.int .u32 r.flags)) ∧ ((setP u G i true ps r).cell? ⟨Zr, 8, none⟩ = some (.int .u64 r.exp)) ∧ ((setP u G i true ps r).cell? ⟨Zr, 9, none⟩ = some (.string r.body))) ∧ TakeE X a F n ⟨true, ps, r⟩ w (.returned (.bool true)) (setP u G i true ps r)) := hid (fun u ku => by
          have hx := at_kept HX4.out ku
          have hz := at_kept HZ4.out ku
          have ho := og_stays HO4.out ku
          have c := rg_A (rg_own encA_ok ho) (i := i) (x := ⟨n, true, zeroRp⟩) (by rw [List.getElem?_set_self HL.out])
          simp only [Nat.zero_add] at c
          obtain ⟨-, -, c⟩ := c
          have t := tn_setP u G i true ps r
          have hx2 := at_tn hx t HXG.out
          have hz2 := at_tn hz t HZG.out
          have e1 := at_cell hx 1
          have e2 := at_cell hx2 1
          rw [hm] at e1 e2
          exact ⟨⟨e1, cells9 hz⟩, c, og_frozen ho, ⟨e2, cells9 hz2⟩, take_done HM.out hx2 (by rw [HMt.out]; exact og_setP ho HL.out) HF.out rfl HK3.out (tn_comp (tn_next HT4.out ku) t (fun b hb => .inl hb))⟩)
        have HKd : Hid (Kept w4 w4.drew) := hid (kept_drew (kept_refl w4))
        have hS := (HSt.out w4.drew HKd.out).1
        clear hm hw4 d1 z0 z1 z2 z3 z4 z5 z6 z7 z8 z9 hc1 cf c1
        refine wp_region_noPanic ?_
        refine wp_region_held_drew (S := (fun w' => (w'.cell? ⟨X, 1, none⟩ = some (.slice (some ⟨G, 0, none⟩) m cap)) ∧ (w'.cell? ⟨Zr, 1, none⟩ = some (.bool ps)) ∧ (w'.cell? ⟨Zr, 2, none⟩ = some (.string r.key)) ∧ (w'.cell? ⟨Zr, 3, none⟩ = some (.int .u64 r.s.p)) ∧ (w'.cell? ⟨Zr, 4, none⟩ = some (.int .u32 r.s.l)) ∧ (w'.cell? ⟨Zr, 5, none⟩ = some (.int .u8 r.s.n)) ∧ (w'.cell? ⟨Zr, 6, none⟩ = some (.int .u8 r.kind)) ∧ (w'.cell? ⟨Zr, 7, none⟩ = some (.int .u32 r.flags)) ∧ (w'.cell? ⟨Zr, 8, none⟩ = some (.int .u64 r.exp)) ∧ (w'.cell? ⟨Zr, 9, none⟩ = some (.string r.body)))) (by kernel_rfl) (hS) (fun hHeld => ?_)
        refine wpAnyH_take (i := 0) (v := .pointer (some ⟨X, 0, none⟩)) rfl (by kernel_rfl) (by kernel_rfl) (by kernel_rfl) (fun _ _ _ h => h) (Or.inl ⟨by rfl, fun w hSw => by (try dsimp only at hSw); go_simp⟩) (by assumption) ?_
        try simp only [List.getElem_toArray, List.getElem_cons_zero, List.getElem_cons_succ, Act.put, List.setIfInBounds_toArray, List.set_cons_zero, List.set_cons_succ]
        refine wpAnyH_take (i := 1) (v := .pointer (some ⟨X, 0, none⟩)) rfl (by kernel_rfl) (by kernel_rfl) (by kernel_rfl) (fun _ _ _ h => h) (Or.inl ⟨by rfl, fun w hSw => by (try dsimp only at hSw); go_simp⟩) (by assumption) ?_
        try simp only [List.getElem_toArray, List.getElem_cons_zero, List.getElem_cons_succ, Act.put, List.setIfInBounds_toArray, List.set_cons_zero, List.set_cons_succ]
        refine wpAnyH_take (i := 2) (v := .pointer (some ⟨X, 1, none⟩)) rfl (by kernel_rfl) (by kernel_rfl) (by kernel_rfl) (fun _ _ _ h => h) (Or.inl ⟨by rfl, fun w hSw => by (try dsimp only at hSw); go_simp⟩) (by assumption) ?_
        try simp only [List.getElem_toArray, List.getElem_cons_zero, List.getElem_cons_succ, Act.put, List.setIfInBounds_toArray, List.set_cons_zero, List.set_cons_succ]
        refine wpAnyH_take (i := 3) (v := .slice (some ⟨G, 0, none⟩) m cap) rfl (by kernel_rfl) (by kernel_rfl) (by kernel_rfl) (fun _ _ _ h => h) (Or.inl ⟨by rfl, fun w hSw => by (try dsimp only at hSw); go_simp⟩) (by assumption) ?_
        try simp only [List.getElem_toArray, List.getElem_cons_zero, List.getElem_cons_succ, Act.put, List.setIfInBounds_toArray, List.set_cons_zero, List.set_cons_succ]
        refine wpAnyH_take (i := 4) (v := .int .i64 (i : Int)) rfl (by kernel_rfl) (by kernel_rfl) (by kernel_rfl) (fun _ _ _ h => h) (Or.inl ⟨by rfl, fun w hSw => by (try dsimp only at hSw); go_simp⟩) (by assumption) ?_
        try simp only [List.getElem_toArray, List.getElem_cons_zero, List.getElem_cons_succ, Act.put, List.setIfInBounds_toArray, List.set_cons_zero, List.set_cons_succ]
        refine wpAnyH_take (i := 5) (v := .pointer (some ⟨Zr, 1, none⟩)) rfl (by kernel_rfl) (by kernel_rfl) (by kernel_rfl) (fun _ _ _ h => h) (Or.inl ⟨by rfl, fun w hSw => by (try dsimp only at hSw); go_simp⟩) (by assumption) ?_
        try simp only [List.getElem_toArray, List.getElem_cons_zero, List.getElem_cons_succ, Act.put, List.setIfInBounds_toArray, List.set_cons_zero, List.set_cons_succ]
        refine wpAnyH_take (i := 6) (v := .bool ps) rfl (by kernel_rfl) (by kernel_rfl) (by kernel_rfl) (fun _ _ _ h => h) (Or.inl ⟨by rfl, fun w hSw => by (try dsimp only at hSw); go_simp⟩) (by assumption) ?_
        try simp only [List.getElem_toArray, List.getElem_cons_zero, List.getElem_cons_succ, Act.put, List.setIfInBounds_toArray, List.set_cons_zero, List.set_cons_succ]
        refine wpAnyH_take (i := 7) (v := .pointer (some ⟨Zr, 2, none⟩)) rfl (by kernel_rfl) (by kernel_rfl) (by kernel_rfl) (fun _ _ _ h => h) (Or.inl ⟨by rfl, fun w hSw => by (try dsimp only at hSw); go_simp⟩) (by assumption) ?_
        try simp only [List.getElem_toArray, List.getElem_cons_zero, List.getElem_cons_succ, Act.put, List.setIfInBounds_toArray, List.set_cons_zero, List.set_cons_succ]
        refine wpAnyH_take (i := 8) (v := .agg #[.string r.key, .int .u64 r.s.p, .int .u32 r.s.l, .int .u8 r.s.n, .int .u8 r.kind, .int .u32 r.flags, .int .u64 r.exp, .string r.body]) rfl (by kernel_rfl) (by kernel_rfl) (by kernel_rfl) (fun _ _ _ h => h) (Or.inl ⟨by rfl, fun w hSw => by (try dsimp only at hSw); go_simp⟩) (by assumption) ?_
        try simp only [List.getElem_toArray, List.getElem_cons_zero, List.getElem_cons_succ, Act.put, List.setIfInBounds_toArray, List.set_cons_zero, List.set_cons_succ]
        refine wpAnyH_ready (rs := [9]) (by kernel_rfl) (by simp) ?_
        refine AllReadyH.cons (i := 9) rfl (fun K hK => ?_) AllReadyH.nil
        go_simp
        refine (HFr.out _).mono ?_
        rintro e w5 ⟨rfl, k5⟩
        have HK5 := hid (kept_trans HKd.out k5)
        obtain ⟨hS, hq, hf, hS1, hE1⟩ := HSt.out w5 HK5.out
        have HS1 := hid hS1
        have HE1 := hid hE1
        clear k5 hS1 hE1
        clear hHeld
        show K _ _
        refine hK.out _ _ (hS) (fun hHeld => ?_)
        clear hK K
        try simp only [List.getElem_toArray, List.getElem_cons_zero, List.getElem_cons_succ, Act.put, List.setIfInBounds_toArray, List.set_cons_zero, List.set_cons_succ]
        refine wpAnyH_take (i := 10) (v := .agg #[.bool true, .bool ps, .string r.key, .int .u64 r.s.p, .int .u32 r.s.l, .int .u8 r.s.n, .int .u8 r.kind, .int .u32 r.flags, .int .u64 r.exp, .string r.body]) rfl (by kernel_rfl) (by kernel_rfl) (by kernel_rfl) (fun _ _ _ h => h) (Or.inl ⟨by rfl, fun w hSw => by (try dsimp only at hSw); go_simp⟩) (by assumption) ?_
        try simp only [List.getElem_toArray, List.getElem_cons_zero, List.getElem_cons_succ, Act.put, List.setIfInBounds_toArray, List.set_cons_zero, List.set_cons_succ]
        refine wpAnyH_take (i := 11) (v := .pointer (some ⟨G, i * 12, none⟩)) rfl (by kernel_rfl) (by kernel_rfl) (by kernel_rfl) (fun _ _ _ h => h) (Or.inl ⟨by rfl, fun w hSw => by (try dsimp only at hSw); go_simp⟩) (by assumption) ?_
        try simp only [List.getElem_toArray, List.getElem_cons_zero, List.getElem_cons_succ, Act.put, List.setIfInBounds_toArray, List.set_cons_zero, List.set_cons_succ]
        refine wpAnyH_take (i := 12) (v := .pointer (some ⟨G, i * 12 + 2, none⟩)) rfl (by kernel_rfl) (by kernel_rfl) (by kernel_rfl) (fun _ _ _ h => h) (Or.inl ⟨by rfl, fun w hSw => by (try dsimp only at hSw); go_simp⟩) (by assumption) ?_
        try simp only [List.getElem_toArray, List.getElem_cons_zero, List.getElem_cons_succ, Act.put, List.setIfInBounds_toArray, List.set_cons_zero, List.set_cons_succ]
        refine wpAnyH_ready (rs := [13]) (by kernel_rfl) (by simp) ?_
        refine AllReadyH.cons (i := 13) rfl (fun K hK => ?_) AllReadyH.nil
        obtain ⟨y0, y1, y2, y3, y4, y5, y6, y7, y8, y9⟩ := hq
        go_simp
        have hS := HS1.out
        clear hHeld
        show K _ _
        refine hK.out _ _ (hS) (fun hHeld => ?_)
        clear hK K
        try simp only [List.getElem_toArray, List.getElem_cons_zero, List.getElem_cons_succ, Act.put, List.setIfInBounds_toArray, List.set_cons_zero, List.set_cons_succ]
        refine wpAnyH_done (by kernel_rfl) ?_ _
        refine NoPanic.normal ?_
        clear hHeld hS hf
        go_wp2_with fail
        go_ret
        exact HE1.out
end Go.Proofs.YtjmldnbepajnoaaR
