/- Single operations; the walks of isOver, Record, lockOf. -/
import Derived.Test.YtcoaahlakkghhaaSe
import Derived.Test.YtcoaahlakkghhaaUk
namespace Go.Proofs.Ytcoaahlakkghhaa
open Go.RowKit
section
variable {ρ : Operand → Value} {X : World} {d : Option Tmp} {ty : TypeId} {ps : String} {af : Array Edge} {g : Option (Nat × Bool)}
theorem op_f92_0 {x : Operand} {B o : Nat} (e : ρ x = .pointer (some ⟨B, o, none⟩)) : (execOp ρ ⟨d, .fieldAddr 92 x 0, ty, ps, af, g⟩).run Try.prog X = .ok (.value (.pointer (some ⟨B, o, none⟩))) X := by
  simp only [execOp, e]
  go_simp
theorem op_f92_1 {x : Operand} {B o : Nat} (e : ρ x = .pointer (some ⟨B, o, none⟩)) : (execOp ρ ⟨d, .fieldAddr 92 x 1, ty, ps, af, g⟩).run Try.prog X = .ok (.value (.pointer (some ⟨B, o + 1, none⟩))) X := by
  simp only [execOp, e]
  go_simp
theorem op_f92_2 {x : Operand} {B o : Nat} (e : ρ x = .pointer (some ⟨B, o, none⟩)) : (execOp ρ ⟨d, .fieldAddr 92 x 2, ty, ps, af, g⟩).run Try.prog X = .ok (.value (.pointer (some ⟨B, o + 2, none⟩))) X := by
  simp only [execOp, e]
  go_simp
theorem op_f92_3 {x : Operand} {B o : Nat} (e : ρ x = .pointer (some ⟨B, o, none⟩)) : (execOp ρ ⟨d, .fieldAddr 92 x 3, ty, ps, af, g⟩).run Try.prog X = .ok (.value (.pointer (some ⟨B, o + 3, none⟩))) X := by
  simp only [execOp, e]
  go_simp
theorem op_f92_4 {x : Operand} {B o : Nat} (e : ρ x = .pointer (some ⟨B, o, none⟩)) : (execOp ρ ⟨d, .fieldAddr 92 x 4, ty, ps, af, g⟩).run Try.prog X = .ok (.value (.pointer (some ⟨B, o + 4, none⟩))) X := by
  simp only [execOp, e]
  go_simp
theorem op_f92_5 {x : Operand} {B o : Nat} (e : ρ x = .pointer (some ⟨B, o, none⟩)) : (execOp ρ ⟨d, .fieldAddr 92 x 5, ty, ps, af, g⟩).run Try.prog X = .ok (.value (.pointer (some ⟨B, o + 5, none⟩))) X := by
  simp only [execOp, e]
  go_simp
theorem op_load89 {x : Operand} {B i : Nat} {n : Option Nat} (e : ρ x = .pointer (some ⟨B, i, none⟩)) (y : X.cell? ⟨B, i, none⟩ = some (.map n)) : (execOp ρ ⟨d, .load 89 x, ty, ps, af, g⟩).run Try.prog X = .ok (.value (.map n)) X := by
  simp only [execOp, e]
  go_simp
theorem op_load90 {x : Operand} {B i : Nat} {n : Option Nat} (e : ρ x = .pointer (some ⟨B, i, none⟩)) (y : X.cell? ⟨B, i, none⟩ = some (.map n)) : (execOp ρ ⟨d, .load 90 x, ty, ps, af, g⟩).run Try.prog X = .ok (.value (.map n)) X := by
  simp only [execOp, e]
  go_simp
theorem op_load37 {x : Operand} {B i : Nat} {t : Td} (e : ρ x = .pointer (some ⟨B, i, none⟩)) (y0 : X.cell? ⟨B, i, none⟩ = some (.int .i64 t.1)) (y1 : X.cell? ⟨B, i + 1, none⟩ = some (.int .i64 t.2.1)) (y2 : X.cell? ⟨B, i + 2, none⟩ = some (.int .i64 t.2.2)) : (execOp ρ ⟨d, .load 37 x, ty, ps, af, g⟩).run Try.prog X = .ok (.value (tdV t)) X := by
  simp only [execOp, e]
  go_simp
theorem op_lookup {T : TypeId} {x y : Operand} {v1 v2 v : Value} {b : Bool} (e : ρ x = v1) (e2 : ρ y = v2) (h : (Instr.lookup T v1 v2 b).run Try.prog X = .ok v X) : (execOp ρ ⟨d, .lookup T x y b, ty, ps, af, g⟩).run Try.prog X = .ok (.value v) X := by
  simp only [execOp, e, e2]
  simp [h]
theorem op_extract0 {x : Operand} {u v : Value} (e : ρ x = .tuple #[u, v]) : (execOp ρ ⟨d, .extract x 0, ty, ps, af, g⟩).run Try.prog X = .ok (.value u) X := by
  simp only [execOp, e]
  go_simp
theorem op_extract1 {x : Operand} {u v : Value} (e : ρ x = .tuple #[u, v]) : (execOp ρ ⟨d, .extract x 1, ty, ps, af, g⟩).run Try.prog X = .ok (.value v) X := by
  simp only [execOp, e]
  go_simp
theorem op_alloc154 : (execOp ρ ⟨d, .alloc 154, ty, ps, af, g⟩).run Try.prog X = .ok (.value (.pointer (some ⟨X.heap.size, 0, none⟩))) (X.alloc (.cells #[] 154)) := by
  simp only [execOp]
  go_simp
theorem op_store154 {x y : Operand} {B : Nat} (e : ρ x = .pointer (some ⟨B, 0, none⟩)) (e2 : ρ y = .agg #[]) : (execOp ρ ⟨d, .store 154 x y, ty, ps, af, g⟩).run Try.prog X = .ok .skip X := by
  simp only [execOp, e, e2]
  go_simp
end
theorem zero3 (w : World) : (zeroValue 3).run Try.prog w = .ok (.int .i64 0) w := by kernel_rfl
theorem zero154 (w : World) : (zeroValue 154).run Try.prog w = .ok (.agg #[]) w := by kernel_rfl
end Go.Proofs.Ytcoaahlakkghhaa
