/- The walks of Newest and Rows. -/
import Derived.Test.YtcoaahlakkghhaaVh
namespace Go.Proofs.Ytcoaahlakkghhaa
open Go.RowKit

section
variable {w w' W V : World} {A : Nat} {S T : Nat → Prop} {G : List Gw} {rv : Value} {R : List Rw}
theorem newR_fd {R : List Rw} {k : ByteArray} : newR R k = match R[place R k]? with
    | some r => if r.key = k then newest r.list else 0
    | none => 0 := rfl
end
end Go.Proofs.Ytcoaahlakkghhaa
