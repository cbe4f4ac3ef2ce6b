import Derived.Test.YtkfnphhoebknnaaQBy
import Derived.Test.YtkfnphhoebknnaaQUg
namespace Go.Proofs.Ytkfnphhoebknnaa
open Go.RowKit Go.Maps
/-- A draft: the schema's own cell, and tables in memory from B on. -/
structure Df (w : World) (B A : Nat) (s : Sc) (G : List Gt) (tv : Value) : Prop where
  ob : w.heap[A]? = some (.cells (scA s tv) 24 (0, 0))
  dr : Dr w B G tv
  tabs : G.map Prod.fst = s.tabs
  hA : B ≤ A
/-- What change answers (the version is not counted yet). -/
def ChAns (w : World) (B A : Nat) (s : Sc) (res : Except Int Sc) (e : Ending) (w' : World) : Prop := match res with
  | .error er => e = .returned (.int .i64 er) ∧ er ≠ 0 ∧ Below B w w'
  | .ok s' => e = .returned (.int .i64 0) ∧ (∃ G' tv', Df w' B A ⟨s.ver, s'.last, s'.tabs⟩ G' tv') ∧ Below B w w'
/-- Amid the region in which a list is changed. -/
def GC (V : World) (TB off Y : Nat) (cT : Array Value) (tp : Value) (er : Int) (Post : Value → World → Prop) (b1 b2 : Bool) (X : World) : Prop := match b1, b2 with
  | false, _ => Below V.heap.size V X
  | true, false => X.heap[TB]? = some (.cells cT 54 (0, 0)) ∧ X.cell? ⟨Y, 0, none⟩ = some tp
  | true, true => ∃ ad n cap X4, Post (.tuple #[.slice ad n cap, .int .i64 er]) X4 ∧ Fr X4 X (fun k => k = TB) ∧ X.heap[TB]? = some (.cells (cT.setIfInBounds off (.slice ad n cap)) 54 (0, 0))
def RT (TB : Nat) (er : Int) (Post : Value → World → Prop) (v : Value) (X : World) : Prop := ∃ ad n cap X4, v = .tuple #[.slice ad n cap, .int .i64 er] ∧ Post (.tuple #[.slice ad n cap, .int .i64 er]) X4 ∧ Fr X4 X (fun k => k = TB)
def RS (TB : Nat) (er : Int) (Post : Value → World → Prop) (v : Value) (X : World) : Prop := ∃ ad n cap X4, v = .slice ad n cap ∧ Post (.tuple #[.slice ad n cap, .int .i64 er]) X4 ∧ Fr X4 X (fun k => k = TB)
theorem RT.go {TB : Nat} {er : Int} {Post : Value → World → Prop} {v : Value} {X X' : World} (h : RT TB er Post v X) (k : Fr X X' (fun k => k = TB)) : RT TB er Post v X' := by
  obtain ⟨a, n, c, X4, e, p, f⟩ := h
  exact ⟨a, n, c, X4, e, p, f.trans k⟩
theorem RS.go {TB : Nat} {er : Int} {Post : Value → World → Prop} {v : Value} {X X' : World} (h : RS TB er Post v X) (k : Fr X X' (fun k => k = TB)) : RS TB er Post v X' := by
  obtain ⟨a, n, c, X4, e, p, f⟩ := h
  exact ⟨a, n, c, X4, e, p, f.trans k⟩
theorem GC.box {V X : World} {TB off Y : Nat} {cT : Array Value} {tp : Value} {er : Int} {Post : Value → World → Prop} {b1 b2 : Bool} (h : GC V TB off Y cT tp er Post b1 b2 X) (e : b2 = false) (hY : V.cell? ⟨Y, 0, none⟩ = some tp) : X.cell? ⟨Y, 0, none⟩ = some tp := by
  subst e
  cases b1 with
  | false => exact cell_on h hY
  | true => exact h.2
end Go.Proofs.Ytkfnphhoebknnaa
namespace Go.Proofs.Ytkfnphhoebknnaa
open Go.RowKit Go.Maps
end Go.Proofs.Ytkfnphhoebknnaa
namespace Go.Proofs.Ytkfnphhoebknnaa
open Go.RowKit Go.Maps
end Go.Proofs.Ytkfnphhoebknnaa
namespace Go.Proofs.Ytkfnphhoebknnaa
open Go.RowKit Go.Maps
end Go.Proofs.Ytkfnphhoebknnaa
namespace Go.Proofs.Ytkfnphhoebknnaa
open Go.RowKit Go.Maps
end Go.Proofs.Ytkfnphhoebknnaa
namespace Go.Proofs.Ytkfnphhoebknnaa
open Go.RowKit Go.Maps
end Go.Proofs.Ytkfnphhoebknnaa
namespace Go.Proofs.Ytkfnphhoebknnaa
open Go.RowKit Go.Maps
end Go.Proofs.Ytkfnphhoebknnaa
namespace Go.Proofs.Ytkfnphhoebknnaa
open Go.RowKit Go.Maps
theorem freshC_snoc : ∀ (l : List Col) (k : Int) (x : Col), freshC k (l ++ [x]) = freshC k l ++ [⟨k + l.length, x.nm, x.kd, 3, ⟨0, 0, ⟨#[]⟩⟩⟩]
  | [], k, x => by simp [freshC]
  | c :: l, k, x => by
    rw [List.cons_append, freshC, freshC_snoc l, freshC, List.cons_append, List.length_cons]
    have : k + 1 + (l.length : Int) = k + ((l.length + 1 : Nat) : Int) := by omega
    rw [this]
theorem freshC_len : ∀ (l : List Col) (k : Int), (freshC k l).length = l.length
  | [], _ => rfl
  | c :: l, k => by rw [freshC, List.length_cons, List.length_cons, freshC_len l]
/-- Amid the region in which a column is put behind the others. -/
def GL (V1 : World) (A Q : Nat) (oldA newA tq : Array Value) (cv : Value) (y : Col) (L : List Col) (b3 b9 b10 b12 : Bool) (X : World) : Prop := match b9, b10, b12 with
  | false, _, _ => Fr V1 X (fun k => k = A) ∧ X.heap.size = V1.heap.size ∧ X.heap[A]? = some (.cells (bif b3 then newA else oldA) 24 (0, 0))
  | true, false, _ => ∃ X0, X = X0.alloc (.cells (colA y) 65) ∧ Fr V1 X0 (fun k => k = A) ∧ X0.heap[A]? = some (.cells newA 24 (0, 0)) ∧ X0.heap.size = V1.heap.size
  | true, true, false => Fr V1 X (fun k => k = A ∨ cv.ownBlock = some k) ∧ X.heap[A]? = some (.cells newA 24 (0, 0))
  | true, true, true => ∃ ad cap, X.ownsRow 0 65 7 (.slice ad (L.length + 1) cap) (L ++ [y]).length ((L ++ [y]).flatMap colL) ∧ (∀ k, (Value.slice ad (L.length + 1) cap).ownBlock = some k → cv.ownBlock = some k ∨ V1.heap.size ≤ k) ∧ Fr V1 X (fun k => k = A ∨ cv.ownBlock = some k ∨ k = Q) ∧ X.heap[A]? = some (.cells newA 24 (0, 0)) ∧ X.heap[Q]? = some (.cells (tq.setIfInBounds 2 (.slice ad (L.length + 1) cap)) 54 (0, 0))
section
variable {V1 X : World} {A Q : Nat} {oldA newA tq : Array Value} {cv : Value} {y : Col} {L : List Col} {b3 b9 b10 b12 : Bool}
theorem GL.cell (h : GL V1 A Q oldA newA tq cv y L b3 b9 b10 b12 X) (e : b10 = false) {B i : Nat} {v : Value} (hB : B ≠ A) (c : V1.cell? ⟨B, i, none⟩ = some v) : X.cell? ⟨B, i, none⟩ = some v := by
  subst e
  have hl : B < V1.heap.size := pt_lt c
  have key : ∀ X0, Fr V1 X0 (fun k => k = A) → X0.cell? ⟨B, i, none⟩ = some v := fun X0 hf => by
    unfold World.cell? at c ⊢
    rw [hf.block B hl hB]
    exact c
  cases b9 with
  | false => exact key X h.1
  | true =>
    obtain ⟨X0, rfl, hf, _⟩ := h
    exact cell_on (bnew _ _) (key X0 hf)
end
end Go.Proofs.Ytkfnphhoebknnaa
