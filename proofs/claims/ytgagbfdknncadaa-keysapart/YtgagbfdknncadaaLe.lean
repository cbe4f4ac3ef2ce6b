/- The statement KeysApart answers true at every two lists and every two values: its three parts, joined. -/
import Derived.Test.YtgagbfdknncadaaLe1
import Derived.Test.YtgagbfdknncadaaLe2
import Derived.Test.YtgagbfdknncadaaLe3
namespace Go.Proofs.Ytgagbfdknncadaa
open Go.RowKit

theorem apart_any (A B : List V) (x y : V) (ad ad' : Option Addr) (cap cap' : Nat) (w : World) (hA : Li A ad w) (hB : Li B ad' w) (fA : Fits A) (fB : Fits B) (fx : Fit x.n) (fy : Fit y.n) :
    Calls Try.prog 8 #[.slice ad A.length cap, .slice ad' B.length cap', .agg #[.int .i64 x.k, .int .i64 x.n, .string x.s], .agg #[.int .i64 y.k, .int .i64 y.n, .string y.s]] w fun e w' => e = .returned (.bool true) ∧ Below w.heap.size w w' := by
  by_cases h0 : encE A = 0
  · by_cases h1 : encE B = 0
    · exact apart_3 A B x y ad ad' cap cap' w hA hB fA fB fx fy h0 h1
    · exact apart_2 A B x y ad ad' cap cap' w hA hB fA fB fx fy h0 h1
  · exact apart_1 A B x y ad ad' cap cap' w hA hB fA fB fx fy h0
end Go.Proofs.Ytgagbfdknncadaa
