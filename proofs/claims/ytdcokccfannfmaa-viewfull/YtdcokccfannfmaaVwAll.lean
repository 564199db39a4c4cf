/- The six laws, of the landed code. -/
import Derived.Test.YtdcokccfannfmaaVwOpen
import Derived.Test.YtdcokccfannfmaaVwCode3
import Derived.Test.YtdcokccfannfmaaVwCode4
namespace Go.Proofs.Ytdcokccfannfmaa
open Go.ChangeShapes Go.WideShapes Go.ChangeAt Go.RowKit Go.Joins Go.Deep
set_option linter.unusedVariables false

theorem hears_all {vv lv : Value} (v : List M) (self : Int) (l : List Nw) (w : World) (h : Rg encM 2 w vv v) (hv : ∀ m ∈ v, okM m) (ws : (Lit.int .u8 self).wf = true) (hn : Rg encN 3 w lv l) (hl : ∀ x ∈ l, okN x) : Calls Try.prog 3 #[vv, .int .u8 self, lv] w fun e w' => e = .returned (.bool true) ∧ Kept w w' := hears_of fresh_is hear_is v self l w h hv ws hn hl
theorem tells_all {v : Value} (a b : M) (n : Int) (l : List M) (w : World) (ho1 : okM a) (ho2 : okM b) (wn : (Lit.int .i64 n).wf = true) (h : Rg encM 2 w v l) (hl : ∀ m ∈ l, okM m) : Calls Try.prog 4 #[.agg #[.int .u8 a.st, .int .u32 a.inc], .agg #[.int .u8 b.st, .int .u32 b.inc], .int .i64 n, v] w fun e w' => e = .returned (.bool true) ∧ Kept w w' := tells_of newer_is fresh_is hear_is up_is all_is a b n l w ho1 ho2 wn h hl
theorem newer_all {vv lv : Value} (v : List M) (self : Int) (l : List Nw) (w : World) (h : Rg encM 2 w vv v) (hv : ∀ m ∈ v, okM m) (ws : (Lit.int .u8 self).wf = true) (hn : Rg encN 3 w lv l) (hl : ∀ x ∈ l, okN x) : Calls Try.prog 5 #[vv, .int .u8 self, lv] w fun e w' => e = .returned (.bool true) ∧ Kept w w' := newer_of fresh_is hear_is v self l w h hv ws hn hl
theorem any_all {vv lv : Value} (v : List M) (self : Int) (l : List Nw) (tu ag : Int) (w : World) (h : Rg encM 2 w vv v) (hv : ∀ m ∈ v, okM m) (ws : (Lit.int .u8 self).wf = true) (hn : Rg encN 3 w lv l) (hl : ∀ x ∈ l, okN x) (wt : (Lit.int .u8 tu).wf = true) (wa : (Lit.int .u8 ag).wf = true) : Calls Try.prog 6 #[vv, .int .u8 self, lv, .int .u8 tu, .int .u8 ag] w fun e w' => e = .returned (.bool true) ∧ Kept w w' := any_of fresh_is hear_is v self l tu ag w h hv ws hn hl wt wa
theorem full_all {vv uv : Value} (v u : List M) (self : Int) (w : World) (h : Rg encM 2 w vv v) (hv : ∀ m ∈ v, okM m) (hn : Rg encM 2 w uv u) (hu : ∀ m ∈ u, okM m) (ws : (Lit.int .u8 self).wf = true) : Calls Try.prog 7 #[vv, uv, .int .u8 self] w fun e w' => e = .returned (.bool true) ∧ Kept w w' := full_of fresh_is hear_is all_is v u self w h hv hn hu ws
theorem meet_all {vv uv : Value} (v u : List M) (x y : Int) (w : World) (h : Rg encM 2 w vv v) (hv : ∀ m ∈ v, okM m) (hn : Rg encM 2 w uv u) (hu : ∀ m ∈ u, okM m) (wx : (Lit.int .u8 x).wf = true) (wy : (Lit.int .u8 y).wf = true) : Calls Try.prog 8 #[vv, uv, .int .u8 x, .int .u8 y] w fun e w' => e = .returned (.bool true) ∧ Kept w w' := meet_of fresh_is hear_is all_is v u x y w h hv hn hu wx wy
end Go.Proofs.Ytdcokccfannfmaa
