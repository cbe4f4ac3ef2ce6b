import Derived.Test.YtkfnphhoebknnaaQCi
namespace Go.Proofs.Ytkfnphhoebknnaa
open Go.RowKit Go.Maps
section
variable {ρ : Operand → Value} {X : World} {d : Option Tmp} {ty : TypeId} {ps : String} {af : Array Edge} {g : Option (Nat × Bool)}
theorem op_b65_pub {x y z : Operand} {a c : Int} {b : ByteArray} (hc : ∀ x, ρ (.const x) = x) (e0 : ρ x = .int .i64 a) (e1 : ρ y = .string b) (e2 : ρ z = .int .i64 c) : (execOp ρ ⟨d, .build 65 #[(0, x), (1, y), (2, z), (3, .const (.int .i64 3))], ty, ps, af, g⟩).run Try.prog X = .ok (.value (.agg #[.int .i64 a, .string b, .int .i64 c, .int .i64 3, .int .i64 0, .int .i64 0, .string ⟨#[]⟩])) X := by
  simp only [execOp]
  simp [e0, e1, e2, hc]
  go_simp
theorem op_s42 {x : Operand} {c : Col} (e : ρ x = .agg (colA c)) : (execOp ρ ⟨d, .buildSlice 42 1 #[(0, x)], ty, ps, af, g⟩).run Try.prog X = .ok (.value (.slice (some ⟨X.heap.size, 0, none⟩) 1 1)) (X.alloc (.cells (colA c) 65)) := by
  simp only [execOp]
  simp [e]
  go_simp
end
structure GA (V : World) (A Q : Nat) (oldA newA z r : Array Value) (b1 b5 b6 : Bool) (X : World) : Prop where
  fr : Fr V X (fun k => k = A ∨ k = Q)
  a : X.heap[A]? = some (.cells (bif b1 then newA else oldA) 24 (0, 0))
  q0 : b5 = false → X.heap.size = Q
  q1 : b5 = true → X.heap[Q]? = some (.cells (bif b6 then r else z) 54 (0, 0))
theorem GA.cell {V X : World} {A Q : Nat} {oldA newA z r : Array Value} {b1 b5 b6 : Bool} (h : GA V A Q oldA newA z r b1 b5 b6 X) {B i : Nat} {v : Value} (hA : B ≠ A) (hQ : B ≠ Q) (c : V.cell? ⟨B, i, none⟩ = some v) : X.cell? ⟨B, i, none⟩ = some v := by
  have hl : B < V.heap.size := pt_lt c
  unfold World.cell? at c ⊢
  rw [h.fr.block B hl (fun q => by rcases q with q | q; exact hA q; exact hQ q)]
  exact c
theorem GA.made {V X : World} {A Q : Nat} {oldA newA z r : Array Value} {b1 b5 b6 : Bool} (h : GA V A Q oldA newA z r b1 b5 b6 X) (hn : b5 = false) (h6 : b6 = false) : GA V A Q oldA newA z r b1 true b6 (X.alloc (.cells z 54)) := by
  subst hn h6
  refine ⟨h.fr.alloc _, ?_, fun q => (by cases q), fun _ => ?_⟩
  · rw [Below.heap_alloc _ _ _ (blk_lt h.a)]
    exact h.a
  · have := heap_alloc_new X (.cells z 54)
    rw [h.q0 rfl] at this
    exact this
end Go.Proofs.Ytkfnphhoebknnaa
namespace Go.Proofs.Ytkfnphhoebknnaa
open Go.RowKit Go.Maps
section
variable {w : World}
theorem ChAns.from {w W w' : World} {B A : Nat} {s : Sc} {res : Except Int Sc} {e : Ending} (h : ChAns W B A s res e w') (hb : Below B w W) : ChAns w B A s res e w' := by
  cases res with
  | error er => exact ⟨h.1, h.2.1, hb.trans h.2.2⟩
  | ok s' => exact ⟨h.1, h.2.1, hb.trans h.2.2⟩
end
end Go.Proofs.Ytkfnphhoebknnaa
namespace Go.Proofs.Ytkfnphhoebknnaa
open Go.RowKit Go.Maps
theorem right_parts {s : Sc} (h : rightS s = true) : farB s.ver = true ∧ farB s.last = true ∧ s.tabs.length ≤ 6 ∧ ∀ t ∈ s.tabs, cntB t = true := by
  unfold rightS at h
  simp only [Bool.and_eq_true, decide_eq_true_eq, List.all_eq_true] at h
  obtain ⟨⟨⟨⟨⟨⟨⟨h1, h2⟩, h3⟩, h4⟩, _⟩, _⟩, _⟩, _⟩ := h
  refine ⟨h1, h2, h3, fun t ht => ?_⟩
  have := h4 t ht
  unfold tabB at this
  simp only [Bool.and_eq_true] at this
  exact this.1.1
/-- What Turn answers. -/
def TuAns (w : World) (res : Except Int Sc) (e : Ending) (w' : World) : Prop := match res with
  | .error er => e = .returned (.tuple #[.agg #[.int .i64 0, .int .i64 0, .slice none 0 0], .int .i64 er]) ∧ er ≠ 0 ∧ Below w.heap.size w w'
  | .ok s' => ∃ G tv, e = .returned (.tuple #[.agg (scA s' tv), .int .i64 0]) ∧ G.map Prod.fst = s'.tabs ∧ Dr w' w.heap.size G tv ∧ Below w.heap.size w w'
end Go.Proofs.Ytkfnphhoebknnaa
