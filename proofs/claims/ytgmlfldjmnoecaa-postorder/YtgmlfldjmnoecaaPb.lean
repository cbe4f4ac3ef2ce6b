/- A list of letters that leads nowhere has no room. -/
import Derived.Test.YtgmlfldjmnoecaaPa
namespace Go.Proofs.Ytgmlfldjmnoecaa
open Go.ChangeShapes Go.WideShapes Go.ChangeAt Go.WideMaps Go.WideElems Go.RowKit Go.Joins Go.Deep

set_option maxRecDepth 100000 in
theorem none_cap {H : Type} {enc : TypeId × Value → H} {W : World} {n cap : Nat} {ad : Option Addr} {d : DataW H} {p : List MemPlace} (h : DataW.Trod enc Try.prog W 0 (fun _ => true) true 26 (.slice ad n cap) d p) (ha : ad = none) : cap = 0 := by
  subst ha
  obtain ⟨fuel, hf⟩ := h
  rcases open_slice Try.underlying26 hf with ⟨hcs, _⟩ | ⟨a, len', cap', m, k, D, Pl, hcs, _⟩
  · simp [Value.cells] at hcs
    exact hcs.2
  · simp [Value.cells] at hcs
end Go.Proofs.Ytgmlfldjmnoecaa
