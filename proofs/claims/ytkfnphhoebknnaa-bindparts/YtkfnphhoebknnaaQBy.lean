import Derived.Test.YtkfnphhoebknnaaQBs
namespace Go.Proofs.Ytkfnphhoebknnaa
open Go.RowKit Go.Maps
end Go.Proofs.Ytkfnphhoebknnaa
namespace Go.Proofs.Ytkfnphhoebknnaa
open Go.RowKit Go.Maps
theorem results_two {fn : Func} {t u : Tmp} {ty : TypeId} {ad : Addr} {v x : Value} {tmps : Array Value} {w : World} (h : fn.results = #[.cell t ty, .tmp u]) (ha : tmps.getD t undef = .pointer (some ad)) (hu : tmps.getD u undef = x) (hl : (loadVar ty ad).run Try.prog w = .ok v w) : (results fn tmps).run Try.prog w = .ok (.tuple #[v, x]) w := by
  have ha2 : tmps[t]?.getD undef = .pointer (some ad) := by simpa using ha
  have hu2 : tmps[u]?.getD undef = x := by simpa using hu
  simp [results, h, ha2, hu2, asAddr, hl]
/-- Amid a region that writes to two blocks. -/
structure GW (W : World) (A Y : Nat) (oldA newA : Array Value) (eT : TypeId) (z r : Array Value) (b1 b2 : Bool) (X : World) : Prop where
  fr : Fr W X (fun k => k = A ∨ k = Y)
  a : X.heap[A]? = some (.cells (bif b1 then newA else oldA) 24 (0, 0))
  y : X.heap[Y]? = some (.cells (bif b2 then r else z) eT (0, 0))
section
variable {W X : World} {A Y : Nat} {oldA newA z r : Array Value} {eT : TypeId} {b1 b2 : Bool}
theorem GW.cell (h : GW W A Y oldA newA eT z r b1 b2 X) {B i : Nat} {v : Value} (hA : B ≠ A) (hY : B ≠ Y) (c : W.cell? ⟨B, i, none⟩ = some v) : X.cell? ⟨B, i, none⟩ = some v := by
  have hl : B < W.heap.size := pt_lt c
  unfold World.cell? at c ⊢
  rw [h.fr.block B hl (fun q => by rcases q with q | q; exact hA q; exact hY q)]
  exact c
end
end Go.Proofs.Ytkfnphhoebknnaa
namespace Go.Proofs.Ytkfnphhoebknnaa
open Go.RowKit Go.Maps
end Go.Proofs.Ytkfnphhoebknnaa
namespace Go.Proofs.Ytkfnphhoebknnaa
open Go.RowKit Go.Maps
end Go.Proofs.Ytkfnphhoebknnaa
namespace Go.Proofs.Ytkfnphhoebknnaa
open Go.RowKit Go.Maps
end Go.Proofs.Ytkfnphhoebknnaa
namespace Go.Proofs.Ytkfnphhoebknnaa
open Go.RowKit Go.Maps
end Go.Proofs.Ytkfnphhoebknnaa
