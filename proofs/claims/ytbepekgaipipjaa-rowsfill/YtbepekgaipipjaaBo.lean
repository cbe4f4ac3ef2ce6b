/- Single operations. -/
import Derived.Test.YtbepekgaipipjaaBb
import Derived.Test.YtbepekgaipipjaaWk
import Derived.Laws.EntriesVeiled
namespace Go.Proofs.Ytbepekgaipipjaa
open Go.RowKit
theorem info35 : (Try.prog.info? 55).map (fun i => (i.zero, i.size, i.bytes)) = some (some (.agg #[.int .i64 0, .string ⟨#[]⟩, .slice none 0 0, .slice none 0 0, .slice none 0 0]), 5, 96) := by kernel_rfl
theorem size55 : (Try.prog.info? 55).map (·.size) = some 5 := by kernel_rfl
theorem info50 : (Try.prog.info? 99).map (fun i => (i.zero, i.size, i.bytes)) = some (some (.agg #[.int .i64 0, .string ⟨#[]⟩, .int .i64 0, .int .i64 0, .int .i64 0, .int .i64 0, .string ⟨#[]⟩]), 7, 72) := by kernel_rfl
theorem size99 : (Try.prog.info? 99).map (·.size) = some 7 := by kernel_rfl
theorem info71 : (Try.prog.info? 96).map (fun i => (i.zero, i.size, i.bytes)) = some (some (.agg #[.int .i64 0, .string ⟨#[]⟩, .int .i64 0, .bool false, .int .i64 0]), 5, 48) := by kernel_rfl
theorem size96 : (Try.prog.info? 96).map (·.size) = some 5 := by kernel_rfl
theorem info74 : (Try.prog.info? 133).map (fun i => (i.zero, i.size, i.bytes)) = some (some (.agg #[.int .i64 0, .string ⟨#[]⟩, .int .i64 0, .int .i64 0, .int .i64 0]), 5, 48) := by kernel_rfl
theorem size133 : (Try.prog.info? 133).map (·.size) = some 5 := by kernel_rfl
theorem size23 : (Try.prog.info? 23).map (·.size) = some 3 := by kernel_rfl
section
variable {w w' : World} {v : Value}
end
section
variable {ρ : Operand → Value} {X : World} {d : Option Tmp} {ty : TypeId} {ps : String} {af : Array Edge} {g : Option (Nat × Bool)}
theorem op_move {x : Operand} {v : Value} (e : ρ x = v) : (execOp ρ ⟨d, .move x, ty, ps, af, g⟩).run Try.prog X = .ok (.value v) X := by
  simp only [execOp, e]
  rfl
theorem op_assign {x : Operand} {v : Value} (e : ρ x = v) : (execOp ρ ⟨d, .assign x, ty, ps, af, g⟩).run Try.prog X = .ok (.value v) X := by
  simp only [execOp, e]
  rfl
theorem op_nil {x : Operand} {a : Addr} (e : ρ x = .pointer (some a)) : (execOp ρ ⟨d, .nilCheck x, ty, ps, af, g⟩).run Try.prog X = .ok (.value (.pointer (some a))) X := by
  simp only [execOp, e]
  rfl
theorem op_load2 {x : Operand} {B i : Nat} {n : Int} (e : ρ x = .pointer (some ⟨B, i, none⟩)) (y : X.cell? ⟨B, i, none⟩ = some (.int .i64 n)) : (execOp ρ ⟨d, .load 2 x, ty, ps, af, g⟩).run Try.prog X = .ok (.value (.int .i64 n)) X := by
  simp only [execOp, e]
  go_simp
theorem op_load3 {x : Operand} {B i : Nat} {n : Int} (e : ρ x = .pointer (some ⟨B, i, none⟩)) (y : X.cell? ⟨B, i, none⟩ = some (.int .i64 n)) : (execOp ρ ⟨d, .load 3 x, ty, ps, af, g⟩).run Try.prog X = .ok (.value (.int .i64 n)) X := by
  simp only [execOp, e]
  go_simp
theorem op_load4 {x : Operand} {B i : Nat} {n : Bool} (e : ρ x = .pointer (some ⟨B, i, none⟩)) (y : X.cell? ⟨B, i, none⟩ = some (.bool n)) : (execOp ρ ⟨d, .load 4 x, ty, ps, af, g⟩).run Try.prog X = .ok (.value (.bool n)) X := by
  simp only [execOp, e]
  go_simp
theorem op_load9 {x : Operand} {B i : Nat} {n : ByteArray} (e : ρ x = .pointer (some ⟨B, i, none⟩)) (y : X.cell? ⟨B, i, none⟩ = some (.string n)) : (execOp ρ ⟨d, .load 9 x, ty, ps, af, g⟩).run Try.prog X = .ok (.value (.string n)) X := by
  simp only [execOp, e]
  go_simp
theorem op_load51 {x : Operand} {B i : Nat} {a : Option Addr} {n m : Nat} (e : ρ x = .pointer (some ⟨B, i, none⟩)) (y : X.cell? ⟨B, i, none⟩ = some (.slice a n m)) : (execOp ρ ⟨d, .load 51 x, ty, ps, af, g⟩).run Try.prog X = .ok (.value (.slice a n m)) X := by
  simp only [execOp, e]
  go_simp
theorem op_load52 {x : Operand} {B i : Nat} {a : Option Addr} {n m : Nat} (e : ρ x = .pointer (some ⟨B, i, none⟩)) (y : X.cell? ⟨B, i, none⟩ = some (.slice a n m)) : (execOp ρ ⟨d, .load 52 x, ty, ps, af, g⟩).run Try.prog X = .ok (.value (.slice a n m)) X := by
  simp only [execOp, e]
  go_simp
theorem op_load53 {x : Operand} {B i : Nat} {a : Option Addr} {n m : Nat} (e : ρ x = .pointer (some ⟨B, i, none⟩)) (y : X.cell? ⟨B, i, none⟩ = some (.slice a n m)) : (execOp ρ ⟨d, .load 53 x, ty, ps, af, g⟩).run Try.prog X = .ok (.value (.slice a n m)) X := by
  simp only [execOp, e]
  go_simp
theorem op_f55_0 {x : Operand} {B o : Nat} (e : ρ x = .pointer (some ⟨B, o, none⟩)) : (execOp ρ ⟨d, .fieldAddr 55 x 0, ty, ps, af, g⟩).run Try.prog X = .ok (.value (.pointer (some ⟨B, o, none⟩))) X := by
  simp only [execOp, e]
  go_simp
theorem op_f55_1 {x : Operand} {B o : Nat} (e : ρ x = .pointer (some ⟨B, o, none⟩)) : (execOp ρ ⟨d, .fieldAddr 55 x 1, ty, ps, af, g⟩).run Try.prog X = .ok (.value (.pointer (some ⟨B, o + 1, none⟩))) X := by
  simp only [execOp, e]
  go_simp
theorem op_f55_2 {x : Operand} {B o : Nat} (e : ρ x = .pointer (some ⟨B, o, none⟩)) : (execOp ρ ⟨d, .fieldAddr 55 x 2, ty, ps, af, g⟩).run Try.prog X = .ok (.value (.pointer (some ⟨B, o + 2, none⟩))) X := by
  simp only [execOp, e]
  go_simp
theorem op_f55_3 {x : Operand} {B o : Nat} (e : ρ x = .pointer (some ⟨B, o, none⟩)) : (execOp ρ ⟨d, .fieldAddr 55 x 3, ty, ps, af, g⟩).run Try.prog X = .ok (.value (.pointer (some ⟨B, o + 3, none⟩))) X := by
  simp only [execOp, e]
  go_simp
theorem op_f55_4 {x : Operand} {B o : Nat} (e : ρ x = .pointer (some ⟨B, o, none⟩)) : (execOp ρ ⟨d, .fieldAddr 55 x 4, ty, ps, af, g⟩).run Try.prog X = .ok (.value (.pointer (some ⟨B, o + 4, none⟩))) X := by
  simp only [execOp, e]
  go_simp
theorem op_f99_0 {x : Operand} {B o : Nat} (e : ρ x = .pointer (some ⟨B, o, none⟩)) : (execOp ρ ⟨d, .fieldAddr 99 x 0, ty, ps, af, g⟩).run Try.prog X = .ok (.value (.pointer (some ⟨B, o, none⟩))) X := by
  simp only [execOp, e]
  go_simp
theorem op_f99_1 {x : Operand} {B o : Nat} (e : ρ x = .pointer (some ⟨B, o, none⟩)) : (execOp ρ ⟨d, .fieldAddr 99 x 1, ty, ps, af, g⟩).run Try.prog X = .ok (.value (.pointer (some ⟨B, o + 1, none⟩))) X := by
  simp only [execOp, e]
  go_simp
theorem op_f99_2 {x : Operand} {B o : Nat} (e : ρ x = .pointer (some ⟨B, o, none⟩)) : (execOp ρ ⟨d, .fieldAddr 99 x 2, ty, ps, af, g⟩).run Try.prog X = .ok (.value (.pointer (some ⟨B, o + 2, none⟩))) X := by
  simp only [execOp, e]
  go_simp
theorem op_f99_3 {x : Operand} {B o : Nat} (e : ρ x = .pointer (some ⟨B, o, none⟩)) : (execOp ρ ⟨d, .fieldAddr 99 x 3, ty, ps, af, g⟩).run Try.prog X = .ok (.value (.pointer (some ⟨B, o + 3, none⟩))) X := by
  simp only [execOp, e]
  go_simp
theorem op_f99_4 {x : Operand} {B o : Nat} (e : ρ x = .pointer (some ⟨B, o, none⟩)) : (execOp ρ ⟨d, .fieldAddr 99 x 4, ty, ps, af, g⟩).run Try.prog X = .ok (.value (.pointer (some ⟨B, o + 4, none⟩))) X := by
  simp only [execOp, e]
  go_simp
theorem op_f96_0 {x : Operand} {B o : Nat} (e : ρ x = .pointer (some ⟨B, o, none⟩)) : (execOp ρ ⟨d, .fieldAddr 96 x 0, ty, ps, af, g⟩).run Try.prog X = .ok (.value (.pointer (some ⟨B, o, none⟩))) X := by
  simp only [execOp, e]
  go_simp
theorem op_f96_1 {x : Operand} {B o : Nat} (e : ρ x = .pointer (some ⟨B, o, none⟩)) : (execOp ρ ⟨d, .fieldAddr 96 x 1, ty, ps, af, g⟩).run Try.prog X = .ok (.value (.pointer (some ⟨B, o + 1, none⟩))) X := by
  simp only [execOp, e]
  go_simp
theorem op_f96_2 {x : Operand} {B o : Nat} (e : ρ x = .pointer (some ⟨B, o, none⟩)) : (execOp ρ ⟨d, .fieldAddr 96 x 2, ty, ps, af, g⟩).run Try.prog X = .ok (.value (.pointer (some ⟨B, o + 2, none⟩))) X := by
  simp only [execOp, e]
  go_simp
theorem op_f96_3 {x : Operand} {B o : Nat} (e : ρ x = .pointer (some ⟨B, o, none⟩)) : (execOp ρ ⟨d, .fieldAddr 96 x 3, ty, ps, af, g⟩).run Try.prog X = .ok (.value (.pointer (some ⟨B, o + 3, none⟩))) X := by
  simp only [execOp, e]
  go_simp
theorem op_f96_4 {x : Operand} {B o : Nat} (e : ρ x = .pointer (some ⟨B, o, none⟩)) : (execOp ρ ⟨d, .fieldAddr 96 x 4, ty, ps, af, g⟩).run Try.prog X = .ok (.value (.pointer (some ⟨B, o + 4, none⟩))) X := by
  simp only [execOp, e]
  go_simp
theorem op_f133_0 {x : Operand} {B o : Nat} (e : ρ x = .pointer (some ⟨B, o, none⟩)) : (execOp ρ ⟨d, .fieldAddr 133 x 0, ty, ps, af, g⟩).run Try.prog X = .ok (.value (.pointer (some ⟨B, o, none⟩))) X := by
  simp only [execOp, e]
  go_simp
theorem op_f133_1 {x : Operand} {B o : Nat} (e : ρ x = .pointer (some ⟨B, o, none⟩)) : (execOp ρ ⟨d, .fieldAddr 133 x 1, ty, ps, af, g⟩).run Try.prog X = .ok (.value (.pointer (some ⟨B, o + 1, none⟩))) X := by
  simp only [execOp, e]
  go_simp
theorem op_f133_2 {x : Operand} {B o : Nat} (e : ρ x = .pointer (some ⟨B, o, none⟩)) : (execOp ρ ⟨d, .fieldAddr 133 x 2, ty, ps, af, g⟩).run Try.prog X = .ok (.value (.pointer (some ⟨B, o + 2, none⟩))) X := by
  simp only [execOp, e]
  go_simp
theorem op_f133_3 {x : Operand} {B o : Nat} (e : ρ x = .pointer (some ⟨B, o, none⟩)) : (execOp ρ ⟨d, .fieldAddr 133 x 3, ty, ps, af, g⟩).run Try.prog X = .ok (.value (.pointer (some ⟨B, o + 3, none⟩))) X := by
  simp only [execOp, e]
  go_simp
theorem op_f133_4 {x : Operand} {B o : Nat} (e : ρ x = .pointer (some ⟨B, o, none⟩)) : (execOp ρ ⟨d, .fieldAddr 133 x 4, ty, ps, af, g⟩).run Try.prog X = .ok (.value (.pointer (some ⟨B, o + 4, none⟩))) X := by
  simp only [execOp, e]
  go_simp
theorem op_f23_0 {x : Operand} {B o : Nat} (e : ρ x = .pointer (some ⟨B, o, none⟩)) : (execOp ρ ⟨d, .fieldAddr 23 x 0, ty, ps, af, g⟩).run Try.prog X = .ok (.value (.pointer (some ⟨B, o, none⟩))) X := by
  simp only [execOp, e]
  go_simp
theorem op_f23_1 {x : Operand} {B o : Nat} (e : ρ x = .pointer (some ⟨B, o, none⟩)) : (execOp ρ ⟨d, .fieldAddr 23 x 1, ty, ps, af, g⟩).run Try.prog X = .ok (.value (.pointer (some ⟨B, o + 1, none⟩))) X := by
  simp only [execOp, e]
  go_simp
theorem op_f23_2 {x : Operand} {B o : Nat} (e : ρ x = .pointer (some ⟨B, o, none⟩)) : (execOp ρ ⟨d, .fieldAddr 23 x 2, ty, ps, af, g⟩).run Try.prog X = .ok (.value (.pointer (some ⟨B, o + 2, none⟩))) X := by
  simp only [execOp, e]
  go_simp
theorem op_i51 {x y : Operand} {B o n m i : Nat} (e : ρ x = .slice (some ⟨B, o, none⟩) n m) (e2 : ρ y = .int .i64 (i : Int)) (h : i < n) : (execOp ρ ⟨d, .indexAddr 51 x y, ty, ps, af, g⟩).run Try.prog X = .ok (.value (.pointer (some ⟨B, o + i * 7, none⟩))) X := by
  have k0 : (0 : Int) ≤ (i : Int) := by omega
  have k1 : (i : Int) < (n : Int) := by omega
  simp only [execOp, e, e2]
  go_simp
theorem op_len51 {x : Operand} {a : Option Addr} {n m : Nat} (e : ρ x = .slice a n m) : (execOp ρ ⟨d, .call { callee := .builtin .len, args := #[x], argTypes := #[51] }, ty, ps, af, g⟩).run Try.prog X = .ok (.value (.int .i64 (n : Int))) X := by
  simp only [execOp, resolve, invoke, builtin, Sem.run_bind, Sem.run_pure, Result.andThen_ok, List.map_toArray, List.map_cons, List.map_nil, e]
  go_simp
theorem op_append51 {s x : Operand} {v1 v2 v' : Value} {X' : World} (hs : ρ s = v1) (hx : ρ x = v2) (hrun : (Builtin.append_ #[51, 51] 51 #[v1, v2]).run Try.prog X = .ok v' X') : (execOp ρ ⟨d, .call { callee := .builtin .append, args := #[s, x], argTypes := #[51, 51] }, 51, ps, af, g⟩).run Try.prog X = .ok (.value v') X' := by
  simp only [execOp, resolve, invoke, builtin, Sem.run_bind, Sem.run_pure, Result.andThen_ok, List.map_toArray, List.map_cons, List.map_nil, hs, hx, hrun]
theorem op_i52 {x y : Operand} {B o n m i : Nat} (e : ρ x = .slice (some ⟨B, o, none⟩) n m) (e2 : ρ y = .int .i64 (i : Int)) (h : i < n) : (execOp ρ ⟨d, .indexAddr 52 x y, ty, ps, af, g⟩).run Try.prog X = .ok (.value (.pointer (some ⟨B, o + i * 5, none⟩))) X := by
  have k0 : (0 : Int) ≤ (i : Int) := by omega
  have k1 : (i : Int) < (n : Int) := by omega
  simp only [execOp, e, e2]
  go_simp
theorem op_len52 {x : Operand} {a : Option Addr} {n m : Nat} (e : ρ x = .slice a n m) : (execOp ρ ⟨d, .call { callee := .builtin .len, args := #[x], argTypes := #[52] }, ty, ps, af, g⟩).run Try.prog X = .ok (.value (.int .i64 (n : Int))) X := by
  simp only [execOp, resolve, invoke, builtin, Sem.run_bind, Sem.run_pure, Result.andThen_ok, List.map_toArray, List.map_cons, List.map_nil, e]
  go_simp
theorem op_append52 {s x : Operand} {v1 v2 v' : Value} {X' : World} (hs : ρ s = v1) (hx : ρ x = v2) (hrun : (Builtin.append_ #[52, 52] 52 #[v1, v2]).run Try.prog X = .ok v' X') : (execOp ρ ⟨d, .call { callee := .builtin .append, args := #[s, x], argTypes := #[52, 52] }, 52, ps, af, g⟩).run Try.prog X = .ok (.value v') X' := by
  simp only [execOp, resolve, invoke, builtin, Sem.run_bind, Sem.run_pure, Result.andThen_ok, List.map_toArray, List.map_cons, List.map_nil, hs, hx, hrun]
theorem op_i53 {x y : Operand} {B o n m i : Nat} (e : ρ x = .slice (some ⟨B, o, none⟩) n m) (e2 : ρ y = .int .i64 (i : Int)) (h : i < n) : (execOp ρ ⟨d, .indexAddr 53 x y, ty, ps, af, g⟩).run Try.prog X = .ok (.value (.pointer (some ⟨B, o + i * 5, none⟩))) X := by
  have k0 : (0 : Int) ≤ (i : Int) := by omega
  have k1 : (i : Int) < (n : Int) := by omega
  simp only [execOp, e, e2]
  go_simp
theorem op_len53 {x : Operand} {a : Option Addr} {n m : Nat} (e : ρ x = .slice a n m) : (execOp ρ ⟨d, .call { callee := .builtin .len, args := #[x], argTypes := #[53] }, ty, ps, af, g⟩).run Try.prog X = .ok (.value (.int .i64 (n : Int))) X := by
  simp only [execOp, resolve, invoke, builtin, Sem.run_bind, Sem.run_pure, Result.andThen_ok, List.map_toArray, List.map_cons, List.map_nil, e]
  go_simp
theorem op_append53 {s x : Operand} {v1 v2 v' : Value} {X' : World} (hs : ρ s = v1) (hx : ρ x = v2) (hrun : (Builtin.append_ #[53, 53] 53 #[v1, v2]).run Try.prog X = .ok v' X') : (execOp ρ ⟨d, .call { callee := .builtin .append, args := #[s, x], argTypes := #[53, 53] }, 53, ps, af, g⟩).run Try.prog X = .ok (.value v') X' := by
  simp only [execOp, resolve, invoke, builtin, Sem.run_bind, Sem.run_pure, Result.andThen_ok, List.map_toArray, List.map_cons, List.map_nil, hs, hx, hrun]
theorem op_gtr3 {x y : Operand} {n m : Int} {b : Bool} (e : ρ x = .int .i64 n) (e2 : ρ y = .int .i64 m) (h : decide (m < n) = b) : (execOp ρ ⟨d, .binOp .gtr 3 x y 3, ty, ps, af, g⟩).run Try.prog X = .ok (.value (.bool b)) X := by
  subst h
  simp only [execOp, e, e2]
  go_simp
theorem op_lss3 {x y : Operand} {n m : Int} {b : Bool} (e : ρ x = .int .i64 n) (e2 : ρ y = .int .i64 m) (h : decide (n < m) = b) : (execOp ρ ⟨d, .binOp .lss 3 x y 3, ty, ps, af, g⟩).run Try.prog X = .ok (.value (.bool b)) X := by
  subst h
  simp only [execOp, e, e2]
  go_simp
theorem op_leq3 {x y : Operand} {n m : Int} {b : Bool} (e : ρ x = .int .i64 n) (e2 : ρ y = .int .i64 m) (h : decide (n ≤ m) = b) : (execOp ρ ⟨d, .binOp .leq 3 x y 3, ty, ps, af, g⟩).run Try.prog X = .ok (.value (.bool b)) X := by
  subst h
  simp only [execOp, e, e2]
  go_simp
theorem op_geq3 {x y : Operand} {n m : Int} {b : Bool} (e : ρ x = .int .i64 n) (e2 : ρ y = .int .i64 m) (h : decide (m ≤ n) = b) : (execOp ρ ⟨d, .binOp .geq 3 x y 3, ty, ps, af, g⟩).run Try.prog X = .ok (.value (.bool b)) X := by
  subst h
  simp only [execOp, e, e2]
  go_simp
theorem op_eql3 {x y : Operand} {n m : Int} {b : Bool} (e : ρ x = .int .i64 n) (e2 : ρ y = .int .i64 m) (h : decide (n = m) = b) : (execOp ρ ⟨d, .binOp .eql 3 x y 3, ty, ps, af, g⟩).run Try.prog X = .ok (.value (.bool b)) X := by
  subst h
  simp only [execOp, e, e2]
  go_simp
  by_cases q : n = m <;> simp [q]
theorem op_neq3 {x y : Operand} {n m : Int} {b : Bool} (e : ρ x = .int .i64 n) (e2 : ρ y = .int .i64 m) (h : (!decide (n = m)) = b) : (execOp ρ ⟨d, .binOp .neq 3 x y 3, ty, ps, af, g⟩).run Try.prog X = .ok (.value (.bool b)) X := by
  subst h
  simp only [execOp, e, e2]
  go_simp
  by_cases q : n = m <;> simp [q]
theorem op_eql34 {x y : Operand} {n m : Int} {b : Bool} (e : ρ x = .int .i64 n) (e2 : ρ y = .int .i64 m) (h : decide (n = m) = b) : (execOp ρ ⟨d, .binOp .eql 34 x y 34, ty, ps, af, g⟩).run Try.prog X = .ok (.value (.bool b)) X := by
  subst h
  simp only [execOp, e, e2]
  go_simp
  by_cases q : n = m <;> simp [q]
theorem op_neq34 {x y : Operand} {n m : Int} {b : Bool} (e : ρ x = .int .i64 n) (e2 : ρ y = .int .i64 m) (h : (!decide (n = m)) = b) : (execOp ρ ⟨d, .binOp .neq 34 x y 34, ty, ps, af, g⟩).run Try.prog X = .ok (.value (.bool b)) X := by
  subst h
  simp only [execOp, e, e2]
  go_simp
  by_cases q : n = m <;> simp [q]
theorem op_eql9 {x y : Operand} {n m : ByteArray} {b : Bool} (e : ρ x = .string n) (e2 : ρ y = .string m) (h : decide (n = m) = b) : (execOp ρ ⟨d, .binOp .eql 9 x y 9, ty, ps, af, g⟩).run Try.prog X = .ok (.value (.bool b)) X := by
  subst h
  simp only [execOp, e, e2]
  rw [← same_eq]
  go_simp
theorem op_pick {x y z : Operand} {b : Bool} {v : Value} (e : ρ x = .bool b) (e2 : (if b then ρ y else ρ z) = v) : (execOp ρ ⟨d, .pick x y z, ty, ps, af, g⟩).run Try.prog X = .ok (.value v) X := by
  simp only [execOp, e]
  cases b <;> simp only [Bool.false_eq_true, if_true, if_false] at e2 <;> simp [asBool, e2]
theorem op_not {x : Operand} {b : Bool} (e : ρ x = .bool b) : (execOp ρ ⟨d, .unOp .not 4 x, ty, ps, af, g⟩).run Try.prog X = .ok (.value (.bool (!b))) X := by
  simp only [execOp, e]
  go_simp
theorem op_storeAt {T : TypeId} {x y : Operand} {v p : Value} {X' : World} (e : ρ x = p) (e2 : ρ y = v) (h : (Instr.storeAt T p v).run Try.prog X = .ok () X') : (execOp ρ ⟨d, .store T x y, ty, ps, af, g⟩).run Try.prog X = .ok .skip X' := by
  simp only [execOp, e, e2]
  simp [h]
theorem op_loadAt {T : TypeId} {x : Operand} {v p : Value} (e : ρ x = p) (h : (Instr.loadAt T p).run Try.prog X = .ok v X) : (execOp ρ ⟨d, .load T x, ty, ps, af, g⟩).run Try.prog X = .ok (.value v) X := by
  simp only [execOp, e]
  simp [h]
theorem op_store3 {x y : Operand} {B i : Nat} {n : Int} {u : Value} (e : ρ x = .pointer (some ⟨B, i, none⟩)) (e2 : ρ y = .int .i64 n) (c : X.cell? ⟨B, i, none⟩ = some u) (z : X.frozen? ⟨B, i, none⟩ = false) : (execOp ρ ⟨d, .store 3 x y, ty, ps, af, g⟩).run Try.prog X = .ok .skip (X.setCell ⟨B, i, none⟩ (.int .i64 n)) := by
  simp only [execOp, e, e2]
  go_simp
theorem op_store51 {x y : Operand} {B i : Nat} {a : Option Addr} {n m : Nat} {u : Value} (e : ρ x = .pointer (some ⟨B, i, none⟩)) (e2 : ρ y = .slice a n m) (c : X.cell? ⟨B, i, none⟩ = some u) (z : X.frozen? ⟨B, i, none⟩ = false) : (execOp ρ ⟨d, .store 51 x y, ty, ps, af, g⟩).run Try.prog X = .ok .skip (X.setCell ⟨B, i, none⟩ (.slice a n m)) := by
  simp only [execOp, e, e2]
  go_simp
theorem op_store52 {x y : Operand} {B i : Nat} {a : Option Addr} {n m : Nat} {u : Value} (e : ρ x = .pointer (some ⟨B, i, none⟩)) (e2 : ρ y = .slice a n m) (c : X.cell? ⟨B, i, none⟩ = some u) (z : X.frozen? ⟨B, i, none⟩ = false) : (execOp ρ ⟨d, .store 52 x y, ty, ps, af, g⟩).run Try.prog X = .ok .skip (X.setCell ⟨B, i, none⟩ (.slice a n m)) := by
  simp only [execOp, e, e2]
  go_simp
theorem op_store53 {x y : Operand} {B i : Nat} {a : Option Addr} {n m : Nat} {u : Value} (e : ρ x = .pointer (some ⟨B, i, none⟩)) (e2 : ρ y = .slice a n m) (c : X.cell? ⟨B, i, none⟩ = some u) (z : X.frozen? ⟨B, i, none⟩ = false) : (execOp ρ ⟨d, .store 53 x y, ty, ps, af, g⟩).run Try.prog X = .ok .skip (X.setCell ⟨B, i, none⟩ (.slice a n m)) := by
  simp only [execOp, e, e2]
  go_simp
theorem op_call0 {f : FuncId} {at' : Array TypeId} (hf : ∀ f, ρ (.func f) = .func (.func f) #[] #[]) (hc : Sem.run Try.prog (callFunc f #[]) X = .ok (.enter f #[]) X)  : (execOp ρ ⟨d, .call { callee := .value (.func f), args := #[], argTypes := at' }, ty, ps, af, g⟩).run Try.prog X = .ok (.enter f #[]) X := by
  simp only [execOp]
  simp [resolve, hf, Deferred.ofValue, invoke, hc]
theorem op_call1 {f : FuncId} {x0 : Operand} {v0 : Value} {at' : Array TypeId} (hf : ∀ f, ρ (.func f) = .func (.func f) #[] #[]) (hc : Sem.run Try.prog (callFunc f #[v0]) X = .ok (.enter f #[v0]) X) (e0 : ρ x0 = v0) : (execOp ρ ⟨d, .call { callee := .value (.func f), args := #[x0], argTypes := at' }, ty, ps, af, g⟩).run Try.prog X = .ok (.enter f #[v0]) X := by
  simp only [execOp]
  simp [resolve, hf, e0, Deferred.ofValue, invoke, hc]
theorem op_call2 {f : FuncId} {x0 x1 : Operand} {v0 v1 : Value} {at' : Array TypeId} (hf : ∀ f, ρ (.func f) = .func (.func f) #[] #[]) (hc : Sem.run Try.prog (callFunc f #[v0, v1]) X = .ok (.enter f #[v0, v1]) X) (e0 : ρ x0 = v0) (e1 : ρ x1 = v1) : (execOp ρ ⟨d, .call { callee := .value (.func f), args := #[x0, x1], argTypes := at' }, ty, ps, af, g⟩).run Try.prog X = .ok (.enter f #[v0, v1]) X := by
  simp only [execOp]
  simp [resolve, hf, e0, e1, Deferred.ofValue, invoke, hc]
theorem op_call3 {f : FuncId} {x0 x1 x2 : Operand} {v0 v1 v2 : Value} {at' : Array TypeId} (hf : ∀ f, ρ (.func f) = .func (.func f) #[] #[]) (hc : Sem.run Try.prog (callFunc f #[v0, v1, v2]) X = .ok (.enter f #[v0, v1, v2]) X) (e0 : ρ x0 = v0) (e1 : ρ x1 = v1) (e2 : ρ x2 = v2) : (execOp ρ ⟨d, .call { callee := .value (.func f), args := #[x0, x1, x2], argTypes := at' }, ty, ps, af, g⟩).run Try.prog X = .ok (.enter f #[v0, v1, v2]) X := by
  simp only [execOp]
  simp [resolve, hf, e0, e1, e2, Deferred.ofValue, invoke, hc]
theorem op_call4 {f : FuncId} {x0 x1 x2 x3 : Operand} {v0 v1 v2 v3 : Value} {at' : Array TypeId} (hf : ∀ f, ρ (.func f) = .func (.func f) #[] #[]) (hc : Sem.run Try.prog (callFunc f #[v0, v1, v2, v3]) X = .ok (.enter f #[v0, v1, v2, v3]) X) (e0 : ρ x0 = v0) (e1 : ρ x1 = v1) (e2 : ρ x2 = v2) (e3 : ρ x3 = v3) : (execOp ρ ⟨d, .call { callee := .value (.func f), args := #[x0, x1, x2, x3], argTypes := at' }, ty, ps, af, g⟩).run Try.prog X = .ok (.enter f #[v0, v1, v2, v3]) X := by
  simp only [execOp]
  simp [resolve, hf, e0, e1, e2, e3, Deferred.ofValue, invoke, hc]
theorem op_callV1 {f : FuncId} {cs : Array Value} {h x0 : Operand} {v0 : Value} {at' : Array TypeId} (hf : ρ h = .func (.func f) #[] cs) (hc : Sem.run Try.prog (callFunc f (#[v0] ++ cs)) X = .ok (.enter f (#[v0] ++ cs)) X) (e0 : ρ x0 = v0) : (execOp ρ ⟨d, .call { callee := .value h, args := #[x0], argTypes := at' }, ty, ps, af, g⟩).run Try.prog X = .ok (.enter f (#[v0] ++ cs)) X := by
  simp only [execOp]
  simp [resolve, hf, e0, Deferred.ofValue, invoke, hc]
end
theorem veq (a b : V) : decide (a = b) = (decide (a.k = b.k) && (decide (a.n = b.n) && decide (a.s = b.s))) := by
  by_cases h : a = b
  · subst h; simp
  · have : ¬ (a.k = b.k ∧ a.n = b.n ∧ a.s = b.s) := fun q => h (by obtain ⟨k, n, s⟩ := a; obtain ⟨k', n', s'⟩ := b; simp at q; obtain ⟨rfl, rfl, rfl⟩ := q; rfl)
    rw [decide_eq_false h]
    by_cases h1 : a.k = b.k <;> by_cases h2 : a.n = b.n <;> by_cases h3 : a.s = b.s <;> simp_all
section
variable {ρ : Operand → Value} {X : World} {d : Option Tmp} {ty : TypeId} {ps : String} {af : Array Edge} {g : Option (Nat × Bool)}
theorem op_f89_0 {x : Operand} {B o : Nat} (e : ρ x = .pointer (some ⟨B, o, none⟩)) : (execOp ρ ⟨d, .fieldAddr 89 x 0, ty, ps, af, g⟩).run Try.prog X = .ok (.value (.pointer (some ⟨B, o, none⟩))) X := by
  simp only [execOp, e]
  go_simp
theorem op_f89_1 {x : Operand} {B o : Nat} (e : ρ x = .pointer (some ⟨B, o, none⟩)) : (execOp ρ ⟨d, .fieldAddr 89 x 1, ty, ps, af, g⟩).run Try.prog X = .ok (.value (.pointer (some ⟨B, o + 1, none⟩))) X := by
  simp only [execOp, e]
  go_simp
theorem op_f78_0 {x : Operand} {B o : Nat} (e : ρ x = .pointer (some ⟨B, o, none⟩)) : (execOp ρ ⟨d, .fieldAddr 78 x 0, ty, ps, af, g⟩).run Try.prog X = .ok (.value (.pointer (some ⟨B, o, none⟩))) X := by
  simp only [execOp, e]
  go_simp
theorem op_f78_1 {x : Operand} {B o : Nat} (e : ρ x = .pointer (some ⟨B, o, none⟩)) : (execOp ρ ⟨d, .fieldAddr 78 x 1, ty, ps, af, g⟩).run Try.prog X = .ok (.value (.pointer (some ⟨B, o + 1, none⟩))) X := by
  simp only [execOp, e]
  go_simp
theorem op_f78_2 {x : Operand} {B o : Nat} (e : ρ x = .pointer (some ⟨B, o, none⟩)) : (execOp ρ ⟨d, .fieldAddr 78 x 2, ty, ps, af, g⟩).run Try.prog X = .ok (.value (.pointer (some ⟨B, o + 2, none⟩))) X := by
  simp only [execOp, e]
  go_simp
theorem op_i32 {x y : Operand} {B o n m i : Nat} (e : ρ x = .slice (some ⟨B, o, none⟩) n m) (e2 : ρ y = .int .i64 (i : Int)) (h : i < n) : (execOp ρ ⟨d, .indexAddr 32 x y, ty, ps, af, g⟩).run Try.prog X = .ok (.value (.pointer (some ⟨B, o + i * 3, none⟩))) X := by
  have k0 : (0 : Int) ≤ (i : Int) := by omega
  have k1 : (i : Int) < (n : Int) := by omega
  simp only [execOp, e, e2]
  go_simp
theorem op_len32 {x : Operand} {a : Option Addr} {n m : Nat} (e : ρ x = .slice a n m) : (execOp ρ ⟨d, .call { callee := .builtin .len, args := #[x], argTypes := #[32] }, ty, ps, af, g⟩).run Try.prog X = .ok (.value (.int .i64 (n : Int))) X := by
  simp only [execOp, resolve, invoke, builtin, Sem.run_bind, Sem.run_pure, Result.andThen_ok, List.map_toArray, List.map_cons, List.map_nil, e]
  go_simp
theorem op_i40 {x y : Operand} {B o n m i : Nat} (e : ρ x = .slice (some ⟨B, o, none⟩) n m) (e2 : ρ y = .int .i64 (i : Int)) (h : i < n) : (execOp ρ ⟨d, .indexAddr 40 x y, ty, ps, af, g⟩).run Try.prog X = .ok (.value (.pointer (some ⟨B, o + i * 4, none⟩))) X := by
  have k0 : (0 : Int) ≤ (i : Int) := by omega
  have k1 : (i : Int) < (n : Int) := by omega
  simp only [execOp, e, e2]
  go_simp
theorem op_len40 {x : Operand} {a : Option Addr} {n m : Nat} (e : ρ x = .slice a n m) : (execOp ρ ⟨d, .call { callee := .builtin .len, args := #[x], argTypes := #[40] }, ty, ps, af, g⟩).run Try.prog X = .ok (.value (.int .i64 (n : Int))) X := by
  simp only [execOp, resolve, invoke, builtin, Sem.run_bind, Sem.run_pure, Result.andThen_ok, List.map_toArray, List.map_cons, List.map_nil, e]
  go_simp
theorem op_i57 {x y : Operand} {B o n m i : Nat} (e : ρ x = .slice (some ⟨B, o, none⟩) n m) (e2 : ρ y = .int .i64 (i : Int)) (h : i < n) : (execOp ρ ⟨d, .indexAddr 57 x y, ty, ps, af, g⟩).run Try.prog X = .ok (.value (.pointer (some ⟨B, o + i * 3, none⟩))) X := by
  have k0 : (0 : Int) ≤ (i : Int) := by omega
  have k1 : (i : Int) < (n : Int) := by omega
  simp only [execOp, e, e2]
  go_simp
theorem op_len57 {x : Operand} {a : Option Addr} {n m : Nat} (e : ρ x = .slice a n m) : (execOp ρ ⟨d, .call { callee := .builtin .len, args := #[x], argTypes := #[57] }, ty, ps, af, g⟩).run Try.prog X = .ok (.value (.int .i64 (n : Int))) X := by
  simp only [execOp, resolve, invoke, builtin, Sem.run_bind, Sem.run_pure, Result.andThen_ok, List.map_toArray, List.map_cons, List.map_nil, e]
  go_simp
theorem op_load23 {x : Operand} {B i : Nat} {v : V} (e : ρ x = .pointer (some ⟨B, i, none⟩)) (y0 : X.cell? ⟨B, i, none⟩ = some (.int .i64 v.k)) (y1 : X.cell? ⟨B, i + 1, none⟩ = some (.int .i64 v.n)) (y2 : X.cell? ⟨B, i + 2, none⟩ = some (.string v.s)) : (execOp ρ ⟨d, .load 23 x, ty, ps, af, g⟩).run Try.prog X = .ok (.value (vlV v)) X := by
  simp only [execOp, e]
  go_simp
theorem op_load89 {x : Operand} {B i : Nat} {v : Ce} (e : ρ x = .pointer (some ⟨B, i, none⟩)) (y0 : X.cell? ⟨B, i, none⟩ = some (.int .i64 v.id)) (y1 : X.cell? ⟨B, i + 1, none⟩ = some (.int .i64 v.v.k)) (y2 : X.cell? ⟨B, i + 2, none⟩ = some (.int .i64 v.v.n)) (y3 : X.cell? ⟨B, i + 3, none⟩ = some (.string v.v.s)) : (execOp ρ ⟨d, .load 89 x, ty, ps, af, g⟩).run Try.prog X = .ok (.value (.agg (ceA v))) X := by
  simp only [execOp, e]
  go_simp
theorem op_s32_2 {x0 x1 : Operand} {v0 v1 : V} (e0 : ρ x0 = vlV v0) (e1 : ρ x1 = vlV v1) : (execOp ρ ⟨d, .buildSlice 32 2 #[(0, x0), (1, x1)], ty, ps, af, g⟩).run Try.prog X = .ok (.value (.slice (some ⟨X.heap.size, 0, none⟩) 2 2)) (X.alloc (.cells (flat [v0, v1]).toArray 23)) := by
  simp only [execOp]
  simp [e0, e1]
  go_simp
  rfl
theorem op_s32_3 {x0 x1 x2 : Operand} {v0 v1 v2 : V} (e0 : ρ x0 = vlV v0) (e1 : ρ x1 = vlV v1) (e2 : ρ x2 = vlV v2) : (execOp ρ ⟨d, .buildSlice 32 3 #[(0, x0), (1, x1), (2, x2)], ty, ps, af, g⟩).run Try.prog X = .ok (.value (.slice (some ⟨X.heap.size, 0, none⟩) 3 3)) (X.alloc (.cells (flat [v0, v1, v2]).toArray 23)) := by
  simp only [execOp]
  simp [e0, e1, e2]
  go_simp
  rfl
theorem op_s32_4 {x0 x1 x2 x3 : Operand} {v0 v1 v2 v3 : V} (e0 : ρ x0 = vlV v0) (e1 : ρ x1 = vlV v1) (e2 : ρ x2 = vlV v2) (e3 : ρ x3 = vlV v3) : (execOp ρ ⟨d, .buildSlice 32 4 #[(0, x0), (1, x1), (2, x2), (3, x3)], ty, ps, af, g⟩).run Try.prog X = .ok (.value (.slice (some ⟨X.heap.size, 0, none⟩) 4 4)) (X.alloc (.cells (flat [v0, v1, v2, v3]).toArray 23)) := by
  simp only [execOp]
  simp [e0, e1, e2, e3]
  go_simp
  rfl
theorem op_eql23 {x y : Operand} {a b : V} {r : Bool} (e : ρ x = vlV a) (e2 : ρ y = vlV b) (h : (decide (a = b)) = r) : (execOp ρ ⟨d, .binOp .eql 23 x y 23, ty, ps, af, g⟩).run Try.prog X = .ok (.value (.bool r)) X := by
  have h1 := same_eq a.s b.s
  subst h
  simp only [execOp, e, e2]
  rw [veq a b, ← h1]
  go_simp
  by_cases q1 : a.k = b.k <;> by_cases q2 : a.n = b.n <;> by_cases q3 : a.s = b.s <;> simp [q1, q2, q3]
theorem op_eql9x {x y : Operand} {n m : ByteArray} {b : Bool} (e : ρ x = .string n) (e2 : ρ y = .string m) (h : (decide (n = m)) = b) : (execOp ρ ⟨d, .binOp .eql 9 x y 9, ty, ps, af, g⟩).run Try.prog X = .ok (.value (.bool b)) X := by
  subst h
  simp only [execOp, e, e2]
  rw [← same_eq]
  go_simp
theorem op_neq23 {x y : Operand} {a b : V} {r : Bool} (e : ρ x = vlV a) (e2 : ρ y = vlV b) (h : (!decide (a = b)) = r) : (execOp ρ ⟨d, .binOp .neq 23 x y 23, ty, ps, af, g⟩).run Try.prog X = .ok (.value (.bool r)) X := by
  have h1 := same_eq a.s b.s
  subst h
  simp only [execOp, e, e2]
  rw [veq a b, ← h1]
  go_simp
  by_cases q1 : a.k = b.k <;> by_cases q2 : a.n = b.n <;> by_cases q3 : a.s = b.s <;> simp [q1, q2, q3]
theorem op_neq9 {x y : Operand} {n m : ByteArray} {b : Bool} (e : ρ x = .string n) (e2 : ρ y = .string m) (h : (!decide (n = m)) = b) : (execOp ρ ⟨d, .binOp .neq 9 x y 9, ty, ps, af, g⟩).run Try.prog X = .ok (.value (.bool b)) X := by
  subst h
  simp only [execOp, e, e2]
  rw [← same_eq]
  go_simp
theorem op_lss2 {x y : Operand} {n m : Int} {b : Bool} (e : ρ x = .int .i64 n) (e2 : ρ y = .int .i64 m) (h : decide (n < m) = b) : (execOp ρ ⟨d, .binOp .lss 2 x y 2, ty, ps, af, g⟩).run Try.prog X = .ok (.value (.bool b)) X := by
  subst h
  simp only [execOp, e, e2]
  go_simp
theorem op_leq2 {x y : Operand} {n m : Int} {b : Bool} (e : ρ x = .int .i64 n) (e2 : ρ y = .int .i64 m) (h : decide (n ≤ m) = b) : (execOp ρ ⟨d, .binOp .leq 2 x y 2, ty, ps, af, g⟩).run Try.prog X = .ok (.value (.bool b)) X := by
  subst h
  simp only [execOp, e, e2]
  go_simp
theorem op_eql2 {x y : Operand} {n m : Int} {b : Bool} (e : ρ x = .int .i64 n) (e2 : ρ y = .int .i64 m) (h : decide (n = m) = b) : (execOp ρ ⟨d, .binOp .eql 2 x y 2, ty, ps, af, g⟩).run Try.prog X = .ok (.value (.bool b)) X := by
  subst h
  simp only [execOp, e, e2]
  go_simp
  by_cases q : n = m <;> simp [q]
theorem op_sub3 {x y : Operand} {n m r : Int} (e : ρ x = .int .i64 n) (e2 : ρ y = .int .i64 m) (h : n - m = r) (h1 : -9223372036854775808 ≤ r) (h2 : r ≤ 9223372036854775807) : (execOp ρ ⟨d, .binOp .sub 3 x y 3, ty, ps, af, g⟩).run Try.prog X = .ok (.value (.int .i64 r)) X := by
  subst h
  simp only [execOp, e, e2]
  go_simp
  rw [IntKind.wrap_i64]
  omega
theorem op_extract0 {x : Operand} {a b : Value} (e : ρ x = .tuple #[a, b]) : (execOp ρ ⟨d, .extract x 0, ty, ps, af, g⟩).run Try.prog X = .ok (.value a) X := by
  simp only [execOp, e]
  go_simp
theorem op_extract1 {x : Operand} {a b : Value} (e : ρ x = .tuple #[a, b]) : (execOp ρ ⟨d, .extract x 1, ty, ps, af, g⟩).run Try.prog X = .ok (.value b) X := by
  simp only [execOp, e]
  go_simp
theorem op_b89 {x y : Operand} {n : Int} {v : V} (e : ρ x = .int .i64 n) (e2 : ρ y = vlV v) : (execOp ρ ⟨d, .build 89 #[(0, x), (1, y)], ty, ps, af, g⟩).run Try.prog X = .ok (.value (.agg #[.int .i64 n, .int .i64 v.k, .int .i64 v.n, .string v.s])) X := by
  simp only [execOp]
  simp [e, e2]
  go_simp
theorem op_s40 {x : Operand} {c : Ce} (e : ρ x = .agg (ceA c)) : (execOp ρ ⟨d, .buildSlice 40 1 #[(0, x)], ty, ps, af, g⟩).run Try.prog X = .ok (.value (.slice (some ⟨X.heap.size, 0, none⟩) 1 1)) (X.alloc (.cells (ceA c) 89)) := by
  simp only [execOp]
  simp [e]
  go_simp
theorem op_b23n  : (execOp ρ ⟨d, .build 23 #[], ty, ps, af, g⟩).run Try.prog X = .ok (.value (vlV nullV0)) X := by
  simp only [execOp]
  go_simp
  exact ⟨rfl, rfl, rfl⟩
end
end Go.Proofs.Ytbepekgaipipjaa
