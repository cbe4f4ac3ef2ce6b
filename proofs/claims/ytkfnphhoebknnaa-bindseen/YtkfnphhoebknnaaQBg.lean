import Derived.Test.YtkfnphhoebknnaaQBf
namespace Go.Proofs.Ytkfnphhoebknnaa
open Go.RowKit
section
variable {w w' : World} {G : List Col} {g n cap i : Nat}
theorem oneC (G : List Col) : ∀ u ∈ G.flatMap colL, u.oneCell' = true := by
  intro u hu
  obtain ⟨x, _, hu⟩ := List.mem_flatMap.1 hu
  simp at hu
  rcases hu with rfl | rfl | rfl | rfl | rfl | rfl | rfl <;> rfl
end
section
variable {w w' : World} {G : List Ix} {g n cap i : Nat}
theorem oneI (G : List Ix) : ∀ u ∈ G.flatMap ixL, u.oneCell' = true := by
  intro u hu
  obtain ⟨x, _, hu⟩ := List.mem_flatMap.1 hu
  simp at hu
  rcases hu with rfl | rfl | rfl | rfl | rfl <;> rfl
end
section
variable {w w' : World} {G : List Fk} {g n cap i : Nat}
theorem oneK (G : List Fk) : ∀ u ∈ G.flatMap fkL, u.oneCell' = true := by
  intro u hu
  obtain ⟨x, _, hu⟩ := List.mem_flatMap.1 hu
  simp at hu
  rcases hu with rfl | rfl | rfl | rfl | rfl <;> rfl
end
end Go.Proofs.Ytkfnphhoebknnaa
