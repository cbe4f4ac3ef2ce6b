/- Single operations of the document's ballot. -/
import Derived.Test.YtmiagjcihmenfaaXZ
import Derived.Test.YtmiagjcihmenfaaXe
namespace Go.Proofs.Ytmiagjcihmenfaa
open Go.RowKit

section
variable {ρ : Operand → Value} {X : World} {d : Option Tmp} {ty : TypeId} {ps : String} {af : Array Edge} {g : Option (Nat × Bool)}
theorem op_move {x : Operand} {v : Value} (e : ρ x = v) : (execOp ρ ⟨d, .move x, ty, ps, af, g⟩).run Try.prog X = .ok (.value v) X := by
  simp only [execOp, e]
  rfl
theorem op_assign {x : Operand} {v : Value} (e : ρ x = v) : (execOp ρ ⟨d, .assign x, ty, ps, af, g⟩).run Try.prog X = .ok (.value v) X := by
  simp only [execOp, e]
  rfl
theorem op_nil {x : Operand} {a : Addr} (e : ρ x = .pointer (some a)) : (execOp ρ ⟨d, .nilCheck x, ty, ps, af, g⟩).run Try.prog X = .ok (.value (.pointer (some a))) X := by
  simp only [execOp, e]
  rfl
theorem op_load3 {x : Operand} {B i : Nat} {n : Int} (e : ρ x = .pointer (some ⟨B, i, none⟩)) (y : X.cell? ⟨B, i, none⟩ = some (.int .i64 n)) : (execOp ρ ⟨d, .load 3 x, ty, ps, af, g⟩).run Try.prog X = .ok (.value (.int .i64 n)) X := by
  simp only [execOp, e]
  go_simp
theorem op_load32 {x : Operand} {B i : Nat} {a : Option Addr} {n m : Nat} (e : ρ x = .pointer (some ⟨B, i, none⟩)) (y : X.cell? ⟨B, i, none⟩ = some (.slice a n m)) : (execOp ρ ⟨d, .load 32 x, ty, ps, af, g⟩).run Try.prog X = .ok (.value (.slice a n m)) X := by
  simp only [execOp, e]
  go_simp
theorem op_sub {x y : Operand} {a b c : Int} (hx : ρ x = .int .i64 a) (hy : ρ y = .int .i64 b) (hc : IntKind.i64.wrap (a - b) = c) : (execOp ρ ⟨d, .binOp .sub 3 x y 3, ty, ps, af, g⟩).run Try.prog X = .ok (.value (.int .i64 c)) X := by
  subst hc
  simp only [execOp, hx, hy]
  go_simp
theorem op_row0 : (execOp ρ ⟨d, .buildSlice 32 0 #[], ty, ps, af, g⟩).run Try.prog X = .ok (.value (.slice (some ⟨X.heap.size, 0, none⟩) 0 0)) (X.alloc (.cells #[] 49)) := by
  simp only [execOp]
  go_simp
theorem op_append {s x : Operand} {v1 v2 v' : Value} {X' : World} (hs : ρ s = v1) (hx : ρ x = v2) (hrun : (Builtin.append_ #[32, 32] 32 #[v1, v2]).run Try.prog X = .ok v' X') : (execOp ρ ⟨d, .call { callee := .builtin .append, args := #[s, x], argTypes := #[32, 32] }, 32, ps, af, g⟩).run Try.prog X = .ok (.value v') X' := by
  simp only [execOp, resolve, invoke, builtin, Sem.run_bind, Sem.run_pure, Result.andThen_ok, List.map_toArray, List.map_cons, List.map_nil, hs, hx, hrun]
theorem op_slice {x y : Operand} {v1 v2 v' : Value} (hx : ρ x = v1) (hy : ρ y = v2) (hrun : ∀ X : World, (Instr.sliceAt 32 v1 none (some v2) none).run Try.prog X = .ok v' X) : (execOp ρ ⟨d, .slice 32 x none (some y) none, ty, ps, af, g⟩).run Try.prog X = .ok (.value v') X := by
  simp only [execOp, Option.map_some, Option.map_none, hx, hy, Sem.run_bind, hrun, Result.andThen_ok, Sem.run_pure]
theorem op_slice' {x y : Operand} {v1 v2 v' : Value} (hx : ρ x = v1) (hy : ρ y = v2) (hrun : ∀ X : World, (Instr.sliceAt 32 v1 (some v2) none none).run Try.prog X = .ok v' X) : (execOp ρ ⟨d, .slice 32 x (some y) none none, ty, ps, af, g⟩).run Try.prog X = .ok (.value v') X := by
  simp only [execOp, Option.map_some, Option.map_none, hx, hy, Sem.run_bind, hrun, Result.andThen_ok, Sem.run_pure]
theorem op_f81_6 {x : Operand} {B : Nat} (e : ρ x = .pointer (some ⟨B, 0, none⟩)) : (execOp ρ ⟨d, .fieldAddr 81 x 6, ty, ps, af, g⟩).run Try.prog X = .ok (.value (.pointer (some ⟨B, 6, none⟩))) X := by
  simp only [execOp, e]
  go_simp
theorem op_f81_9 {x : Operand} {B : Nat} (e : ρ x = .pointer (some ⟨B, 0, none⟩)) : (execOp ρ ⟨d, .fieldAddr 81 x 9, ty, ps, af, g⟩).run Try.prog X = .ok (.value (.pointer (some ⟨B, 9, none⟩))) X := by
  simp only [execOp, e]
  go_simp
theorem op_f34_4 {x : Operand} {B : Nat} (e : ρ x = .pointer (some ⟨B, 0, none⟩)) : (execOp ρ ⟨d, .fieldAddr 34 x 4, ty, ps, af, g⟩).run Try.prog X = .ok (.value (.pointer (some ⟨B, 4, none⟩))) X := by
  simp only [execOp, e]
  go_simp
theorem op_f44 {x : Operand} {B : Nat} {j : Nat} (hj : j = 6 ∨ j = 7) (e : ρ x = .pointer (some ⟨B, 0, none⟩)) : (execOp ρ ⟨d, .fieldAddr 44 x j, ty, ps, af, g⟩).run Try.prog X = .ok (.value (.pointer (some ⟨B, j, none⟩))) X := by
  rcases hj with rfl | rfl
  · simp only [execOp, e]
    go_simp
  · simp only [execOp, e]
    go_simp
end
section
variable {w : World} {S : Nat → Prop} {L : List En} {ad : Option Addr} {cap p : Nat}
/-- The entries behind the first p of a slice. -/
theorem drop_slice (h : Es w S L (.slice ad L.length cap)) (hp : p ≤ L.length) : ∃ ad' cap', (∀ X : World, (Instr.sliceAt 32 (.slice ad L.length cap) (some (.int .i64 (p : Int))) none none).run Try.prog X = .ok (.slice ad' (L.drop p).length cap') X) ∧
    ((ad' = none ∧ (L.drop p).length = 0 ∧ cap' = 0 ∧ enC (L.drop p) = []) ∨ ∃ a, ad' = some a ∧ (enC (L.drop p)).length = (L.drop p).length * 4 ∧ (∀ j u, (enC (L.drop p))[j]? = some u → w.cell? (a.add j) = some u)) := by
  have hsrc := h.src
  have hsh := h.shape
  obtain ⟨_, _, e0, hlc, hcm⟩ := hsh
  cases e0
  have hm : (cap : Int) ≤ 9223372036854775807 := by unfold maxLen at hcm; omega
  have i0 : (0 : Int) ≤ (p : Int) := by omega
  have i1 : (p : Int) ≤ (L.length : Int) := by omega
  have i2 : p ≤ cap := by omega
  have i3 : (p : Int) ≤ (cap : Int) := by omega
  have i4 : (L.length : Int) ≤ (cap : Int) := by omega
  have hdl : (L.drop p).length = L.length - p := by simp
  rcases hsrc with ⟨rfl, e1, rfl, e2⟩ | ⟨a, rfl, _, hc⟩
  · have hp0 : p = 0 := by omega
    subst hp0
    have eL : L = [] := List.eq_nil_of_length_eq_zero e1
    subst eL
    refine ⟨none, 0, fun X => ?_, .inl ⟨rfl, rfl, rfl, rfl⟩⟩
    go_simp
  · have hcd : ∀ j u, (enC (L.drop p))[j]? = some u → w.cell? ((a.add (p * 4)).add j) = some u := by
      intro j u hu
      have e2 : enC L = enC (L.take p) ++ enC (L.drop p) := by rw [← enC_append, List.take_append_drop]
      have l1 : (enC (L.take p)).length = p * 4 := by rw [enC_len]; simp; omega
      have := hc (p * 4 + j) u (by rw [e2, List.getElem?_append_right (by omega), l1, show p * 4 + j - p * 4 = j by omega]; exact hu)
      have hpos : 0 < L.length := by
        have h1 := (List.getElem?_eq_some_iff.1 hu).1
        rw [enC_len, hdl] at h1
        omega
      obtain ⟨_, _, q0, _, _, _, q3⟩ := h
      cases q0
      obtain ⟨bk, of, ea, _⟩ := q3 0 hpos
      cases ea
      rw [add_at] at this
      rw [add_at, add_at, Nat.add_assoc]
      exact this
    by_cases hpc : cap = p
    · have hpl : p = L.length := by omega
      have e3 : L.drop p = [] := by rw [hpl]; exact List.drop_length
      refine ⟨some a, 0, fun X => ?_, .inr ⟨a, rfl, by rw [e3]; rfl, fun j u hu => by rw [e3] at hu; simp [enC] at hu⟩⟩
      rw [hdl]
      have z1 : L.length - p = 0 := by omega
      rw [z1, hpc, ← hpl]
      go_simp
    · refine ⟨some (a.add (p * 4)), cap - p, fun X => ?_, .inr ⟨_, rfl, enC_len _, hcd⟩⟩
      rw [hdl]
      have z2 : ¬ cap = p := hpc
      go_simp
end
end Go.Proofs.Ytmiagjcihmenfaa
