/- The landed requests are as they must be; the three laws, of the landed code. -/
import Derived.Test.YtjmldnbepajnoaaRAkOpen
import Derived.Test.YtjmldnbepajnoaaRAkCode4
import Derived.Test.YtjmldnbepajnoaaRAkCode5
import Derived.Test.YtjmldnbepajnoaaRAkCode7
import Derived.Test.YtjmldnbepajnoaaRAkCode8
import Derived.Test.YtjmldnbepajnoaaRAkCode9
namespace Go.Proofs.YtjmldnbepajnoaaR
open Go.ChangeShapes Go.WideShapes Go.ChangeAt Go.RowKit
set_option linter.unusedVariables false

theorem ask_is : AskIs AO where
  obj := ao_obj
  new := fun l u v w h1 h2 h3 h => new_is l u v w h1 h2 h
  take := fun X a F n x w h g hn hx => take_is X a F n x w h g hx
  over := fun X a F now w h g hn => over_is X a F now w h (by obtain ⟨K, g⟩ := g; exact g.len)
  yes := fun X a F w h g => yes_is X a F w h (by obtain ⟨K, g⟩ := g; exact g.len)
  best := fun X a F w h g => best_all X a F w h g
  behind := fun X a F w h g => behind_is X a F w h (by obtain ⟨K, g⟩ := g; exact g.len)
  take_nil := fun n x w hn hx => take_none n x w
  over_nil := fun now w hn => over_none now w
  yes_nil := fun w => yes_none w
  best_nil := fun w => best_none w
  behind_nil := fun w => behind_none w
theorem any_all {v u : Value} (l : List Int) (ops : List Opn) (key : ByteArray) (tu : Int) (w : World) (h : Rg encU 1 w v l) (h8 : U8 l) (h1 : Rg encO 11 w u ops) (hl : ∀ o ∈ ops, OpOk o) (wk : key.size ≤ maxLen) (wt : (Lit.int .u8 tu).wf = true) : Calls Try.prog 3 #[v, u, .string key, .int .u8 tu] w fun e w' => e = .returned (.bool true) ∧ Kept w w' := any_of ask_is l ops key tu w h h8 h1 hl wk wt
theorem once_all {v u t : Value} (l : List Int) (ops again : List Opn) (key : ByteArray) (w : World) (h : Rg encU 1 w v l) (h8 : U8 l) (h1 : Rg encO 11 w u ops) (hl1 : ∀ o ∈ ops, OpOk o) (h2 : Rg encO 11 w t again) (hl2 : ∀ o ∈ again, OpOk o) (wk : key.size ≤ maxLen) : Calls Try.prog 4 #[v, u, t, .string key] w fun e w' => e = .returned (.bool true) ∧ Kept w w' := once_of ask_is l ops again key w h h8 h1 hl1 h2 hl2 wk
theorem over_all {v : Value} (l : List Int) (u now : Int) (x : Rp) (w : World) (h : Rg encU 1 w v l) (h8 : U8 l) (wu : (Lit.int .u64 u).wf = true) (wn : (Lit.int .u64 now).wf = true) (hx : x.r.ok) : Calls Try.prog 5 #[v, .int .u64 u, .int .u64 now, .agg #[.bool x.has, .bool x.past, .string x.r.key, .int .u64 x.r.s.p, .int .u32 x.r.s.l, .int .u8 x.r.s.n, .int .u8 x.r.kind, .int .u32 x.r.flags, .int .u64 x.r.exp, .string x.r.body]] w fun e w' => e = .returned (.bool true) ∧ Kept w w' := over_of ask_is l u now x w h h8 wu wn hx
end Go.Proofs.YtjmldnbepajnoaaR
