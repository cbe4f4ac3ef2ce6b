/- Single operations of the document's walks. -/
import Derived.Test.YtjhgmncmcklnkaaVZ
import Derived.Test.YtjhgmncmcklnkaaVD
namespace Go.Proofs.Ytjhgmncmcklnkaa
open Go.RowKit

theorem call28 {v : Value} {X : World} : Sem.run Try.prog (callFunc 28 #[v]) X = .ok (.enter 28 #[v]) X := by go_simp
theorem call30 {v : Value} {X : World} : Sem.run Try.prog (callFunc 30 #[v]) X = .ok (.enter 30 #[v]) X := by go_simp
theorem call31 {v : Value} {X : World} : Sem.run Try.prog (callFunc 31 #[v]) X = .ok (.enter 31 #[v]) X := by go_simp
theorem call38 {v : Value} {X : World} : Sem.run Try.prog (callFunc 38 #[v]) X = .ok (.enter 38 #[v]) X := by go_simp
theorem call39 {v : Value} {X : World} : Sem.run Try.prog (callFunc 39 #[v]) X = .ok (.enter 39 #[v]) X := by go_simp
theorem call40 {v : Value} {X : World} : Sem.run Try.prog (callFunc 40 #[v]) X = .ok (.enter 40 #[v]) X := by go_simp
theorem call41 {v : Value} {X : World} : Sem.run Try.prog (callFunc 41 #[v]) X = .ok (.enter 41 #[v]) X := by go_simp
theorem call42 {v : Value} {X : World} : Sem.run Try.prog (callFunc 42 #[v]) X = .ok (.enter 42 #[v]) X := by go_simp
section
variable {ρ : Operand → Value} {X : World} {d : Option Tmp} {ty : TypeId} {ps : String} {af : Array Edge} {g : Option (Nat × Bool)}
theorem op_load3 {x : Operand} {B i : Nat} {n : Int} (e : ρ x = .pointer (some ⟨B, i, none⟩)) (y : X.cell? ⟨B, i, none⟩ = some (.int .i64 n)) : (execOp ρ ⟨d, .load 3 x, ty, ps, af, g⟩).run Try.prog X = .ok (.value (.int .i64 n)) X := by
  simp only [execOp, e]
  go_simp
theorem op_load9 {x : Operand} {B i : Nat} {s : ByteArray} (e : ρ x = .pointer (some ⟨B, i, none⟩)) (y : X.cell? ⟨B, i, none⟩ = some (.string s)) : (execOp ρ ⟨d, .load 9 x, ty, ps, af, g⟩).run Try.prog X = .ok (.value (.string s)) X := by
  simp only [execOp, e]
  go_simp
theorem op_load4 {x : Operand} {B i : Nat} {s : Bool} (e : ρ x = .pointer (some ⟨B, i, none⟩)) (y : X.cell? ⟨B, i, none⟩ = some (.bool s)) : (execOp ρ ⟨d, .load 4 x, ty, ps, af, g⟩).run Try.prog X = .ok (.value (.bool s)) X := by
  simp only [execOp, e]
  go_simp
theorem op_load27 {x : Operand} {B i : Nat} {n : Int} (e : ρ x = .pointer (some ⟨B, i, none⟩)) (y : X.cell? ⟨B, i, none⟩ = some (.int .i64 n)) : (execOp ρ ⟨d, .load 27 x, ty, ps, af, g⟩).run Try.prog X = .ok (.value (.int .i64 n)) X := by
  simp only [execOp, e]
  go_simp
theorem op_load39 {x : Operand} {B i : Nat} {a : Option Addr} {n m : Nat} (e : ρ x = .pointer (some ⟨B, i, none⟩)) (y : X.cell? ⟨B, i, none⟩ = some (.slice a n m)) : (execOp ρ ⟨d, .load 39 x, ty, ps, af, g⟩).run Try.prog X = .ok (.value (.slice a n m)) X := by
  simp only [execOp, e]
  go_simp
theorem op_load40 {x : Operand} {B i : Nat} {a : Option Addr} {n m : Nat} (e : ρ x = .pointer (some ⟨B, i, none⟩)) (y : X.cell? ⟨B, i, none⟩ = some (.slice a n m)) : (execOp ρ ⟨d, .load 40 x, ty, ps, af, g⟩).run Try.prog X = .ok (.value (.slice a n m)) X := by
  simp only [execOp, e]
  go_simp
theorem op_load38 {x : Operand} {B i : Nat} {u0 u1 u2 : Int} (e : ρ x = .pointer (some ⟨B, i, none⟩)) (y0 : X.cell? ⟨B, i, none⟩ = some (.int .i64 u0)) (y1 : X.cell? ⟨B, i + 1, none⟩ = some (.int .i64 u1)) (y2 : X.cell? ⟨B, i + 2, none⟩ = some (.int .i64 u2)) : (execOp ρ ⟨d, .load 38 x, ty, ps, af, g⟩).run Try.prog X = .ok (.value (.agg #[.int .i64 u0, .int .i64 u1, .int .i64 u2])) X := by
  simp only [execOp, e]
  go_simp
theorem op_cat {x y : Operand} {a b : List UInt8} (hx : ρ x = .string (txt a)) (hy : ρ y = .string (txt b)) (hl : a.length + b.length ≤ 9223372036854775807) : (execOp ρ ⟨d, .binOp .add 9 x y 9, ty, ps, af, g⟩).run Try.prog X = .ok (.value (.string (txt (a ++ b)))) X := by
  have h : ¬ 9223372036854775807 < (txt a).size + (txt b).size := by simp only [txt_size]; omega
  simp only [execOp, hx, hy, ← txt_append]
  go_simp
theorem op_assign {x : Operand} {v : Value} (e : ρ x = v) : (execOp ρ ⟨d, .assign x, ty, ps, af, g⟩).run Try.prog X = .ok (.value v) X := by
  simp only [execOp, e]
  rfl
theorem op_move {x : Operand} {v : Value} (e : ρ x = v) : (execOp ρ ⟨d, .move x, ty, ps, af, g⟩).run Try.prog X = .ok (.value v) X := by
  simp only [execOp, e]
  rfl
theorem op_call1 {f : FuncId} {x : Operand} {v : Value} {at' : Array TypeId} (hf : ∀ f, ρ (.func f) = .func (.func f) #[] #[]) (hc : Sem.run Try.prog (callFunc f #[v]) X = .ok (.enter f #[v]) X) (e : ρ x = v) : (execOp ρ ⟨d, .call { callee := .value (.func f), args := #[x], argTypes := at' }, ty, ps, af, g⟩).run Try.prog X = .ok (.enter f #[v]) X := by
  simp only [execOp]
  simp [resolve, hf, e, Deferred.ofValue, invoke, hc]
theorem op_row5 {x0 x1 x2 x3 x4 : Operand} {n0 n1 n2 n3 n4 : Int} (e0 : ρ x0 = .int .i64 n0) (e1 : ρ x1 = .int .i64 n1) (e2 : ρ x2 = .int .i64 n2) (e3 : ρ x3 = .int .i64 n3) (e4 : ρ x4 = .int .i64 n4) : (execOp ρ ⟨d, .buildSlice 98 5 #[(0, x0), (1, x1), (2, x2), (3, x3), (4, x4)], ty, ps, af, g⟩).run Try.prog X = .ok (.value (.slice (some ⟨X.heap.size, 0, none⟩) 5 5)) (X.alloc (.cells #[.int .i64 n0, .int .i64 n1, .int .i64 n2, .int .i64 n3, .int .i64 n4] 3)) := by
  simp only [execOp]
  simp only [List.map_toArray, List.map_cons, List.map_nil, e0, e1, e2, e3, e4]
  go_simp
theorem op_row3 {x0 x1 x2 : Operand} {n0 n1 n2 : Int} (e0 : ρ x0 = .int .i64 n0) (e1 : ρ x1 = .int .i64 n1) (e2 : ρ x2 = .int .i64 n2) : (execOp ρ ⟨d, .buildSlice 98 3 #[(0, x0), (1, x1), (2, x2)], ty, ps, af, g⟩).run Try.prog X = .ok (.value (.slice (some ⟨X.heap.size, 0, none⟩) 3 3)) (X.alloc (.cells #[.int .i64 n0, .int .i64 n1, .int .i64 n2] 3)) := by
  simp only [execOp]
  simp only [List.map_toArray, List.map_cons, List.map_nil, e0, e1, e2]
  go_simp
theorem op_row2 {x0 x1 : Operand} {n0 n1 : Int} (e0 : ρ x0 = .int .i64 n0) (e1 : ρ x1 = .int .i64 n1) : (execOp ρ ⟨d, .buildSlice 98 2 #[(0, x0), (1, x1)], ty, ps, af, g⟩).run Try.prog X = .ok (.value (.slice (some ⟨X.heap.size, 0, none⟩) 2 2)) (X.alloc (.cells #[.int .i64 n0, .int .i64 n1] 3)) := by
  simp only [execOp]
  simp only [List.map_toArray, List.map_cons, List.map_nil, e0, e1]
  go_simp
end
/-- A call whose answer is known. -/
theorem Runs.says {P : Program} {o : Oper} {ρ : Operand → Value} {X W : World} {f : FuncId} {args : Array Value} {v : Value} {K : Value → World → Prop} (hg : Below W.heap.size W X) (h : (execOp ρ o).run P X = .ok (.enter f args) X)
    (k : Calls P f args X fun e w' => e = .returned v ∧ Below X.heap.size X w') (hK : ∀ w', Below W.heap.size W w' → Below X.heap.size X w' → K v w') : Runs P o ρ X K :=
  Runs.goes f args h (k.mono fun _ w' ⟨he, hb⟩ => ⟨v, he, hK w' (bel_trans hg hb) hb⟩)
/-- A row of numbers that was made. -/
theorem Runs.made {P : Program} {o : Oper} {ρ : Operand → Value} {X W : World} {k : Nat} {cs : Array Value} {ns : List Int} {K : Value → World → Prop} (hg : Below W.heap.size W X) (hm : Mk cs k ns) (h : (execOp ρ o).run P X = .ok (.value (.slice (some ⟨X.heap.size, 0, none⟩) k k)) (X.alloc (.cells cs 3)))
    (hK : ∀ w', Below W.heap.size W w' → Below X.heap.size X w' → (∃ F, (.slice (some ⟨X.heap.size, 0, none⟩) k k : Value) = .slice (some ⟨F, 0, none⟩) k k ∧ IntsK w' F k ns) → K (.slice (some ⟨X.heap.size, 0, none⟩) k k) w') : Runs P o ρ X K := by
  have hb : Below X.heap.size X (X.alloc (.cells cs 3)) := (Below.refl _ X).alloc (Nat.le_refl _) _
  exact Runs.val _ h (hK _ (bel_trans hg hb) hb ⟨X.heap.size, rfl, IntsK.new hm rfl⟩)
end Go.Proofs.Ytjhgmncmcklnkaa
