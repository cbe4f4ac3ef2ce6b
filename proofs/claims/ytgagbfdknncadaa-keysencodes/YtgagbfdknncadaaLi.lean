/- The statement KeysEncodes answers true at every list: its walks, joined. -/
import Derived.Test.YtgagbfdknncadaaLg
import Derived.Test.YtgagbfdknncadaaLg0
namespace Go.Proofs.Ytgagbfdknncadaa
open Go.RowKit

theorem encodes_any (L : List V) (ad : Option Addr) (cap : Nat) (w : World) (hL : Li L ad w) (fL : Fits L) (hc : L.length ≤ cap) (hn : ad = none → cap = 0) (hreach : L.length * 32 ≤ 140737488351232) :
    Calls Try.prog 3 #[.slice ad L.length cap] w fun e w' => e = .returned (.bool true) ∧ Below w.heap.size w w' := by
  cases ad with
  | some a => exact encodes_some L a cap w hL fL hreach
  | none =>
    have h0 := hn rfl
    subst h0
    have hl : L.length = 0 := by omega
    rw [hl]
    exact encodes_nil w
end Go.Proofs.Ytgagbfdknncadaa
