/- Single operations. -/
import Derived.Test.YtcmdpahchbbicaaDoorWg
import Derived.Test.YtcmdpahchbbicaaDoorVr
namespace Go.Proofs.YtcmdpahchbbicaaDoor
open Go.RowKit
section
variable {ρ : Operand → Value} {X : World} {d : Option Tmp} {ty : TypeId} {ps : String} {af : Array Edge} {g : Option (Nat × Bool)}
theorem op_move {x : Operand} {v : Value} (e : ρ x = v) : (execOp ρ ⟨d, .move x, ty, ps, af, g⟩).run Tryd.prog X = .ok (.value v) X := by
  simp only [execOp, e]
  rfl
theorem op_assign {x : Operand} {v : Value} (e : ρ x = v) : (execOp ρ ⟨d, .assign x, ty, ps, af, g⟩).run Tryd.prog X = .ok (.value v) X := by
  simp only [execOp, e]
  rfl
theorem op_nil {x : Operand} {a : Addr} (e : ρ x = .pointer (some a)) : (execOp ρ ⟨d, .nilCheck x, ty, ps, af, g⟩).run Tryd.prog X = .ok (.value (.pointer (some a))) X := by
  simp only [execOp, e]
  rfl
theorem op_load3 {x : Operand} {B i : Nat} {n : Int} (e : ρ x = .pointer (some ⟨B, i, none⟩)) (y : X.cell? ⟨B, i, none⟩ = some (.int .i64 n)) : (execOp ρ ⟨d, .load 3 x, ty, ps, af, g⟩).run Tryd.prog X = .ok (.value (.int .i64 n)) X := by
  simp only [execOp, e]
  go_simp
theorem op_load9 {x : Operand} {B i : Nat} {n : ByteArray} (e : ρ x = .pointer (some ⟨B, i, none⟩)) (y : X.cell? ⟨B, i, none⟩ = some (.string n)) : (execOp ρ ⟨d, .load 9 x, ty, ps, af, g⟩).run Tryd.prog X = .ok (.value (.string n)) X := by
  simp only [execOp, e]
  go_simp
theorem op_storeAt {T : TypeId} {x y : Operand} {v p : Value} {X' : World} (e : ρ x = p) (e2 : ρ y = v) (h : (Instr.storeAt T p v).run Tryd.prog X = .ok () X') : (execOp ρ ⟨d, .store T x y, ty, ps, af, g⟩).run Tryd.prog X = .ok .skip X' := by
  simp only [execOp, e, e2]
  simp [h]
theorem op_loadAt {T : TypeId} {x : Operand} {v p : Value} (e : ρ x = p) (h : (Instr.loadAt T p).run Tryd.prog X = .ok v X) : (execOp ρ ⟨d, .load T x, ty, ps, af, g⟩).run Tryd.prog X = .ok (.value v) X := by
  simp only [execOp, e]
  simp [h]
theorem op_call1 {f : FuncId} {x0 : Operand} {v0 : Value} {at' : Array TypeId} (hf : ∀ f, ρ (.func f) = .func (.func f) #[] #[]) (hc : Sem.run Tryd.prog (callFunc f #[v0]) X = .ok (.enter f #[v0]) X) (e0 : ρ x0 = v0) : (execOp ρ ⟨d, .call { callee := .value (.func f), args := #[x0], argTypes := at' }, ty, ps, af, g⟩).run Tryd.prog X = .ok (.enter f #[v0]) X := by
  simp only [execOp]
  simp [resolve, hf, e0, Deferred.ofValue, invoke, hc]
theorem op_f40_0 {x : Operand} {B o : Nat} (e : ρ x = .pointer (some ⟨B, o, none⟩)) : (execOp ρ ⟨d, .fieldAddr 40 x 0, ty, ps, af, g⟩).run Tryd.prog X = .ok (.value (.pointer (some ⟨B, o, none⟩))) X := by
  simp only [execOp, e]
  go_simp
theorem op_f40_1 {x : Operand} {B o : Nat} (e : ρ x = .pointer (some ⟨B, o, none⟩)) : (execOp ρ ⟨d, .fieldAddr 40 x 1, ty, ps, af, g⟩).run Tryd.prog X = .ok (.value (.pointer (some ⟨B, o + 1, none⟩))) X := by
  simp only [execOp, e]
  go_simp
theorem op_slice9 {x y z : Operand} {s : ByteArray} {a b : Nat} (e : ρ x = .string s) (e1 : ρ y = .int .i64 a) (e2 : ρ z = .int .i64 b) (h1 : a ≤ b) (h2 : b ≤ s.size) : (execOp ρ ⟨d, .slice 9 x (some y) (some z) none, ty, ps, af, g⟩).run Tryd.prog X = .ok (.value (.string (s.extract a b))) X := by
  have k0 : (0 : Int) ≤ (a : Int) := by omega
  have k1 : (a : Int) ≤ (b : Int) := by omega
  have k2 : (b : Int) ≤ (s.size : Int) := by omega
  simp only [execOp, Option.map_some, e, e1, e2]
  go_simp
theorem op_alloc31 : (execOp ρ ⟨d, .alloc 31, ty, ps, af, g⟩).run Tryd.prog X = .ok (.value (.pointer (some ⟨X.heap.size, 0, none⟩))) (X.alloc (.cells #[.int .i64 0, .int .i64 0, .string ⟨#[]⟩, .int .i64 0] 31)) := by
  simp only [execOp]
  go_simp
theorem op_b31 {x y z : Operand} {a c : Int} {b : ByteArray} (e0 : ρ x = .int .i64 a) (e1 : ρ y = .int .i64 c) (e2 : ρ z = .string b) : (execOp ρ ⟨d, .build 31 #[(0, x), (1, y), (2, z)], ty, ps, af, g⟩).run Tryd.prog X = .ok (.value (.agg #[.int .i64 a, .int .i64 c, .string b, .int .i64 0])) X := by
  simp only [execOp]
  simp [e0, e1, e2]
  go_simp
end
end Go.Proofs.YtcmdpahchbbicaaDoor
