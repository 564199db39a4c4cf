/- The six laws, of the landed code. -/
import Derived.Test.YtfdnfnnagchjcaaRgOpen
import Derived.Test.YtfdnfnnagchjcaaRgMvd
namespace Go.Proofs.Ytfdnfnnagchjcaa
open Go.ChangeShapes Go.WideShapes Go.ChangeAt Go.RowKit Go.Joins Go.Deep

theorem owners_all {v : Value} (key : ByteArray) (l : List Int) (n : Int) (w : World) (wk : key.size ≤ maxLen) (h : Rg encU 1 w v l) (hu : U8 l) (wn : (Lit.int .u8 n).wf = true) : Calls Try.prog 3 #[.string key, v, .int .u8 n] w fun e w' => e = .returned (.bool true) ∧ Kept w w' := owners_of weight_is owners_is owns_is key l n w wk h hu wn
theorem moved_all {v u z : Value} (l : List ByteArray) (p q : List Int) (w : World) (h : Rg encK 1 w v l) (hk : ∀ k ∈ l, k.size ≤ maxLen) (hu : Rg encU 1 w u p) (hp : U8 p) (hz : Rg encU 1 w z q) (hq : U8 q) : Calls Try.prog 4 #[v, u, z] w fun e w' => e = .returned (.bool true) ∧ Kept w w' := moved_of owners_is moved_is l p q w h hk hu hp hz hq
theorem less_all {v : Value} (key : ByteArray) (l : List Int) (n : Int) (w : World) (wk : key.size ≤ maxLen) (h : Rg encU 1 w v l) (hu : U8 l) (wn : (Lit.int .u8 n).wf = true) : Calls Try.prog 5 #[.string key, v, .int .u8 n] w fun e w' => e = .returned (.bool true) ∧ Kept w w' := less_of owners_is owns_is key l n w wk h hu wn
theorem more_all {v : Value} (key : ByteArray) (l : List Int) (n : Int) (w : World) (wk : key.size ≤ maxLen) (h : Rg encU 1 w v l) (hu : U8 l) (wn : (Lit.int .u8 n).wf = true) : Calls Try.prog 6 #[.string key, v, .int .u8 n] w fun e w' => e = .returned (.bool true) ∧ Kept w w' := more_of owners_is owns_is key l n w wk h hu wn
theorem any_all {v : Value} (key : ByteArray) (l : List Int) (n : Int) (w : World) (wk : key.size ≤ maxLen) (h : Rg encU 1 w v l) (hu : U8 l) (wn : (Lit.int .u8 n).wf = true) : Calls Try.prog 7 #[.string key, v, .int .u8 n] w fun e w' => e = .returned (.bool true) ∧ Kept w w' := any_of owners_is key l n w wk h hu wn
theorem first_all {v : Value} (key : ByteArray) (l : List Int) (w : World) (wk : key.size ≤ maxLen) (h : Rg encU 1 w v l) (hu : U8 l) : Calls Try.prog 8 #[.string key, v] w fun e w' => e = .returned (.bool true) ∧ Kept w w' := first_of weight_is owners_is key l w wk h hu
end Go.Proofs.Ytfdnfnnagchjcaa
