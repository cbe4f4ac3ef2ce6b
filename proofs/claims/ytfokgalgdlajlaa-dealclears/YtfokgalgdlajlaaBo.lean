/- Single operations; appends at the deal's rows. -/
import Derived.Test.YtfokgalgdlajlaaBb
import Derived.Laws.EntriesVeiled
namespace Go.Proofs.Ytfokgalgdlajlaa
open Go.RowKit
theorem size76 : (Try.prog.info? 76).map (·.size) = some 30 := by kernel_rfl
theorem size78 : (Try.prog.info? 78).map (·.size) = some 31 := by kernel_rfl
theorem size82 : (Try.prog.info? 82).map (·.size) = some 14 := by kernel_rfl
theorem size84 : (Try.prog.info? 84).map (·.size) = some 3 := by kernel_rfl
theorem size67 : (Try.prog.info? 67).map (·.size) = some 3 := by kernel_rfl
theorem size69 : (Try.prog.info? 69).map (·.size) = some 3 := by kernel_rfl
theorem size64 : (Try.prog.info? 64).map (·.size) = some 2 := by kernel_rfl
theorem size48 : (Try.prog.info? 48).map (·.size) = some 9 := by kernel_rfl
theorem size93 : (Try.prog.info? 93).map (·.size) = some 3 := by kernel_rfl
theorem size62 : (Try.prog.info? 62).map (·.size) = some 2 := by kernel_rfl
theorem size26 : (Try.prog.info? 26).map (·.size) = some 3 := by kernel_rfl
theorem size37 : (Try.prog.info? 37).map (·.size) = some 3 := by kernel_rfl
theorem size50 : (Try.prog.info? 50).map (·.size) = some 13 := by kernel_rfl
theorem info84 : (Try.prog.info? 84).map (fun i => (i.zero, i.size, i.bytes)) = some (some (.agg #[.int .i64 0, .slice none 0 0, .slice none 0 0]), 3, 56) := by kernel_rfl
theorem info78 : (Try.prog.info? 78).map (fun i => (i.zero, i.size, i.bytes)) = some (some (.agg #[.int .i64 0, .int .i64 0, .int .i64 0, .int .i64 0, .int .i64 0, .int .i64 0, .int .i64 0, .int .i64 0, .int .i64 0, .slice none 0 0, .slice none 0 0, .int .i64 0, .int .i64 0, .int .i64 0, .int .i64 0, .int .i64 0, .int .i64 0, .string ⟨#[]⟩, .string ⟨#[]⟩, .string ⟨#[]⟩, .string ⟨#[]⟩, .bool false, .int .i64 0, .int .i64 0, .int .i64 0, .string ⟨#[]⟩, .slice none 0 0, .int .i64 0, .int .i64 0, .string ⟨#[]⟩, .int .i64 0]), 31, 344) := by kernel_rfl
theorem info67 : (Try.prog.info? 67).map (fun i => (i.zero, i.size, i.bytes)) = some (some (.agg #[.string ⟨#[]⟩, .string ⟨#[]⟩, .slice none 0 0]), 3, 56) := by kernel_rfl
theorem info64 : (Try.prog.info? 64).map (fun i => (i.zero, i.size, i.bytes)) = some (some (.agg #[.string ⟨#[]⟩, .int .i64 0]), 2, 24) := by kernel_rfl
theorem info69 : (Try.prog.info? 69).map (fun i => (i.zero, i.size, i.bytes)) = some (some (.agg #[.string ⟨#[]⟩, .string ⟨#[]⟩, .bool false]), 3, 40) := by kernel_rfl
section
variable {w w' : World} {v : Value}
theorem run_gp {base n m c : Nat} {xs news : List Value} {ad : Option Addr} (ho : w.ownsRow base 84 3 v n xs) (hb : base ≤ w.heap.size) (hs : (ad = none ∧ m = 0 ∧ c = 0 ∧ news = []) ∨ ∃ a, ad = some a ∧ news.length = m * 3 ∧ (∀ j u, news[j]? = some u → w.cell? (a.add j) = some u))
    (h1 : ∀ u ∈ news, u.oneCell' = true) (hnm : (n + m) * 56 ≤ 140737488355328) : ∃ ad' cap' w', (Builtin.append_ #[79, 79] 79 #[v, .slice ad m c]).run Try.prog w = .ok (.slice ad' (n + m) cap') w' ∧ w'.ownsRow base 84 3 (.slice ad' (n + m) cap') (n + m) (xs ++ news) ∧ w.grownBy w' v.ownBlock ∧ ((Value.slice ad' (n + m) cap').ownBlock = v.ownBlock ∨ (Value.slice ad' (n + m) cap').ownBlock = some w.heap.size) := by
  obtain ⟨i0, hi, hz0, hz1, hz2⟩ := info_parts info84
  rcases hs with ⟨rfl, rfl, rfl, rfl⟩ | ⟨a, rfl, hl, hc⟩
  · obtain ⟨ad', cap', rfl⟩ := own_shape ho
    refine ⟨ad', cap', w, ?_, by simpa using ho, ⟨rfl, rfl, rfl, Nat.le_refl _, fun _ _ _ => rfl⟩, .inl rfl⟩
    exact run_append_owned_none (P := Try.prog) (w := w) base 79 79 84 i0 3 Try.underlying79 hi _ n xs ho
  · obtain ⟨v', w', hr, ho', hg, _, hat⟩ := run_append_own_at (P := Try.prog) (w := w) base 79 79 84 i0 _ 3 56 Try.underlying79 hi hz0 hz1 hz2 rfl (by decide) v n xs ho a m c news hl hc h1 (by unfold maxLen; omega) hnm hb
    obtain ⟨ad', cap', rfl⟩ := own_shape ho'
    exact ⟨ad', cap', w', hr, ho', hg, hat⟩
theorem run_ak {base n m c : Nat} {xs news : List Value} {ad : Option Addr} (ho : w.ownsRow base 78 31 v n xs) (hb : base ≤ w.heap.size) (hs : (ad = none ∧ m = 0 ∧ c = 0 ∧ news = []) ∨ ∃ a, ad = some a ∧ news.length = m * 31 ∧ (∀ j u, news[j]? = some u → w.cell? (a.add j) = some u))
    (h1 : ∀ u ∈ news, u.oneCell' = true) (hnm : (n + m) * 344 ≤ 140737488355328) : ∃ ad' cap' w', (Builtin.append_ #[55, 55] 55 #[v, .slice ad m c]).run Try.prog w = .ok (.slice ad' (n + m) cap') w' ∧ w'.ownsRow base 78 31 (.slice ad' (n + m) cap') (n + m) (xs ++ news) ∧ w.grownBy w' v.ownBlock ∧ ((Value.slice ad' (n + m) cap').ownBlock = v.ownBlock ∨ (Value.slice ad' (n + m) cap').ownBlock = some w.heap.size) := by
  obtain ⟨i0, hi, hz0, hz1, hz2⟩ := info_parts info78
  rcases hs with ⟨rfl, rfl, rfl, rfl⟩ | ⟨a, rfl, hl, hc⟩
  · obtain ⟨ad', cap', rfl⟩ := own_shape ho
    refine ⟨ad', cap', w, ?_, by simpa using ho, ⟨rfl, rfl, rfl, Nat.le_refl _, fun _ _ _ => rfl⟩, .inl rfl⟩
    exact run_append_owned_none (P := Try.prog) (w := w) base 55 55 78 i0 31 Try.underlying55 hi _ n xs ho
  · obtain ⟨v', w', hr, ho', hg, _, hat⟩ := run_append_own_at (P := Try.prog) (w := w) base 55 55 78 i0 _ 31 344 Try.underlying55 hi hz0 hz1 hz2 rfl (by decide) v n xs ho a m c news hl hc h1 (by unfold maxLen; omega) hnm hb
    obtain ⟨ad', cap', rfl⟩ := own_shape ho'
    exact ⟨ad', cap', w', hr, ho', hg, hat⟩
theorem run_gr {base n m c : Nat} {xs news : List Value} {ad : Option Addr} (ho : w.ownsRow base 67 3 v n xs) (hb : base ≤ w.heap.size) (hs : (ad = none ∧ m = 0 ∧ c = 0 ∧ news = []) ∨ ∃ a, ad = some a ∧ news.length = m * 3 ∧ (∀ j u, news[j]? = some u → w.cell? (a.add j) = some u))
    (h1 : ∀ u ∈ news, u.oneCell' = true) (hnm : (n + m) * 56 ≤ 140737488355328) : ∃ ad' cap' w', (Builtin.append_ #[22, 22] 22 #[v, .slice ad m c]).run Try.prog w = .ok (.slice ad' (n + m) cap') w' ∧ w'.ownsRow base 67 3 (.slice ad' (n + m) cap') (n + m) (xs ++ news) ∧ w.grownBy w' v.ownBlock ∧ ((Value.slice ad' (n + m) cap').ownBlock = v.ownBlock ∨ (Value.slice ad' (n + m) cap').ownBlock = some w.heap.size) := by
  obtain ⟨i0, hi, hz0, hz1, hz2⟩ := info_parts info67
  rcases hs with ⟨rfl, rfl, rfl, rfl⟩ | ⟨a, rfl, hl, hc⟩
  · obtain ⟨ad', cap', rfl⟩ := own_shape ho
    refine ⟨ad', cap', w, ?_, by simpa using ho, ⟨rfl, rfl, rfl, Nat.le_refl _, fun _ _ _ => rfl⟩, .inl rfl⟩
    exact run_append_owned_none (P := Try.prog) (w := w) base 22 22 67 i0 3 Try.underlying22 hi _ n xs ho
  · obtain ⟨v', w', hr, ho', hg, _, hat⟩ := run_append_own_at (P := Try.prog) (w := w) base 22 22 67 i0 _ 3 56 Try.underlying22 hi hz0 hz1 hz2 rfl (by decide) v n xs ho a m c news hl hc h1 (by unfold maxLen; omega) hnm hb
    obtain ⟨ad', cap', rfl⟩ := own_shape ho'
    exact ⟨ad', cap', w', hr, ho', hg, hat⟩
theorem run_sm {base n m c : Nat} {xs news : List Value} {ad : Option Addr} (ho : w.ownsRow base 64 2 v n xs) (hb : base ≤ w.heap.size) (hs : (ad = none ∧ m = 0 ∧ c = 0 ∧ news = []) ∨ ∃ a, ad = some a ∧ news.length = m * 2 ∧ (∀ j u, news[j]? = some u → w.cell? (a.add j) = some u))
    (h1 : ∀ u ∈ news, u.oneCell' = true) (hnm : (n + m) * 24 ≤ 140737488355328) : ∃ ad' cap' w', (Builtin.append_ #[65, 65] 65 #[v, .slice ad m c]).run Try.prog w = .ok (.slice ad' (n + m) cap') w' ∧ w'.ownsRow base 64 2 (.slice ad' (n + m) cap') (n + m) (xs ++ news) ∧ w.grownBy w' v.ownBlock ∧ ((Value.slice ad' (n + m) cap').ownBlock = v.ownBlock ∨ (Value.slice ad' (n + m) cap').ownBlock = some w.heap.size) := by
  obtain ⟨i0, hi, hz0, hz1, hz2⟩ := info_parts info64
  rcases hs with ⟨rfl, rfl, rfl, rfl⟩ | ⟨a, rfl, hl, hc⟩
  · obtain ⟨ad', cap', rfl⟩ := own_shape ho
    refine ⟨ad', cap', w, ?_, by simpa using ho, ⟨rfl, rfl, rfl, Nat.le_refl _, fun _ _ _ => rfl⟩, .inl rfl⟩
    exact run_append_owned_none (P := Try.prog) (w := w) base 65 65 64 i0 2 Try.underlying65 hi _ n xs ho
  · obtain ⟨v', w', hr, ho', hg, _, hat⟩ := run_append_own_at (P := Try.prog) (w := w) base 65 65 64 i0 _ 2 24 Try.underlying65 hi hz0 hz1 hz2 rfl (by decide) v n xs ho a m c news hl hc h1 (by unfold maxLen; omega) hnm hb
    obtain ⟨ad', cap', rfl⟩ := own_shape ho'
    exact ⟨ad', cap', w', hr, ho', hg, hat⟩
theorem run_wr {base n m c : Nat} {xs news : List Value} {ad : Option Addr} (ho : w.ownsRow base 69 3 v n xs) (hb : base ≤ w.heap.size) (hs : (ad = none ∧ m = 0 ∧ c = 0 ∧ news = []) ∨ ∃ a, ad = some a ∧ news.length = m * 3 ∧ (∀ j u, news[j]? = some u → w.cell? (a.add j) = some u))
    (h1 : ∀ u ∈ news, u.oneCell' = true) (hnm : (n + m) * 40 ≤ 140737488355328) : ∃ ad' cap' w', (Builtin.append_ #[23, 23] 23 #[v, .slice ad m c]).run Try.prog w = .ok (.slice ad' (n + m) cap') w' ∧ w'.ownsRow base 69 3 (.slice ad' (n + m) cap') (n + m) (xs ++ news) ∧ w.grownBy w' v.ownBlock ∧ ((Value.slice ad' (n + m) cap').ownBlock = v.ownBlock ∨ (Value.slice ad' (n + m) cap').ownBlock = some w.heap.size) := by
  obtain ⟨i0, hi, hz0, hz1, hz2⟩ := info_parts info69
  rcases hs with ⟨rfl, rfl, rfl, rfl⟩ | ⟨a, rfl, hl, hc⟩
  · obtain ⟨ad', cap', rfl⟩ := own_shape ho
    refine ⟨ad', cap', w, ?_, by simpa using ho, ⟨rfl, rfl, rfl, Nat.le_refl _, fun _ _ _ => rfl⟩, .inl rfl⟩
    exact run_append_owned_none (P := Try.prog) (w := w) base 23 23 69 i0 3 Try.underlying23 hi _ n xs ho
  · obtain ⟨v', w', hr, ho', hg, _, hat⟩ := run_append_own_at (P := Try.prog) (w := w) base 23 23 69 i0 _ 3 40 Try.underlying23 hi hz0 hz1 hz2 rfl (by decide) v n xs ho a m c news hl hc h1 (by unfold maxLen; omega) hnm hb
    obtain ⟨ad', cap', rfl⟩ := own_shape ho'
    exact ⟨ad', cap', w', hr, ho', hg, hat⟩
end
section
variable {ρ : Operand → Value} {X : World} {d : Option Tmp} {ty : TypeId} {ps : String} {af : Array Edge} {g : Option (Nat × Bool)}
theorem op_move {x : Operand} {v : Value} (e : ρ x = v) : (execOp ρ ⟨d, .move x, ty, ps, af, g⟩).run Try.prog X = .ok (.value v) X := by
  simp only [execOp, e]
  rfl
theorem op_assign {x : Operand} {v : Value} (e : ρ x = v) : (execOp ρ ⟨d, .assign x, ty, ps, af, g⟩).run Try.prog X = .ok (.value v) X := by
  simp only [execOp, e]
  rfl
theorem op_nil {x : Operand} {a : Addr} (e : ρ x = .pointer (some a)) : (execOp ρ ⟨d, .nilCheck x, ty, ps, af, g⟩).run Try.prog X = .ok (.value (.pointer (some a))) X := by
  simp only [execOp, e]
  rfl
theorem op_load3 {x : Operand} {B i : Nat} {n : Int} (e : ρ x = .pointer (some ⟨B, i, none⟩)) (y : X.cell? ⟨B, i, none⟩ = some (.int .i64 n)) : (execOp ρ ⟨d, .load 3 x, ty, ps, af, g⟩).run Try.prog X = .ok (.value (.int .i64 n)) X := by
  simp only [execOp, e]
  go_simp
theorem op_load4 {x : Operand} {B i : Nat} {n : Bool} (e : ρ x = .pointer (some ⟨B, i, none⟩)) (y : X.cell? ⟨B, i, none⟩ = some (.bool n)) : (execOp ρ ⟨d, .load 4 x, ty, ps, af, g⟩).run Try.prog X = .ok (.value (.bool n)) X := by
  simp only [execOp, e]
  go_simp
theorem op_load9 {x : Operand} {B i : Nat} {n : ByteArray} (e : ρ x = .pointer (some ⟨B, i, none⟩)) (y : X.cell? ⟨B, i, none⟩ = some (.string n)) : (execOp ρ ⟨d, .load 9 x, ty, ps, af, g⟩).run Try.prog X = .ok (.value (.string n)) X := by
  simp only [execOp, e]
  go_simp
theorem op_gtr3 {x y : Operand} {n m : Int} {b : Bool} (e : ρ x = .int .i64 n) (e2 : ρ y = .int .i64 m) (h : decide (m < n) = b) : (execOp ρ ⟨d, .binOp .gtr 3 x y 3, ty, ps, af, g⟩).run Try.prog X = .ok (.value (.bool b)) X := by
  subst h
  simp only [execOp, e, e2]
  go_simp
theorem op_lss3 {x y : Operand} {n m : Int} {b : Bool} (e : ρ x = .int .i64 n) (e2 : ρ y = .int .i64 m) (h : decide (n < m) = b) : (execOp ρ ⟨d, .binOp .lss 3 x y 3, ty, ps, af, g⟩).run Try.prog X = .ok (.value (.bool b)) X := by
  subst h
  simp only [execOp, e, e2]
  go_simp
theorem op_leq3 {x y : Operand} {n m : Int} {b : Bool} (e : ρ x = .int .i64 n) (e2 : ρ y = .int .i64 m) (h : decide (n ≤ m) = b) : (execOp ρ ⟨d, .binOp .leq 3 x y 3, ty, ps, af, g⟩).run Try.prog X = .ok (.value (.bool b)) X := by
  subst h
  simp only [execOp, e, e2]
  go_simp
theorem op_geq3 {x y : Operand} {n m : Int} {b : Bool} (e : ρ x = .int .i64 n) (e2 : ρ y = .int .i64 m) (h : decide (m ≤ n) = b) : (execOp ρ ⟨d, .binOp .geq 3 x y 3, ty, ps, af, g⟩).run Try.prog X = .ok (.value (.bool b)) X := by
  subst h
  simp only [execOp, e, e2]
  go_simp
theorem op_eql3 {x y : Operand} {n m : Int} {b : Bool} (e : ρ x = .int .i64 n) (e2 : ρ y = .int .i64 m) (h : decide (n = m) = b) : (execOp ρ ⟨d, .binOp .eql 3 x y 3, ty, ps, af, g⟩).run Try.prog X = .ok (.value (.bool b)) X := by
  subst h
  simp only [execOp, e, e2]
  go_simp
  by_cases q : n = m <;> simp [q]
theorem op_neq3 {x y : Operand} {n m : Int} {b : Bool} (e : ρ x = .int .i64 n) (e2 : ρ y = .int .i64 m) (h : (!decide (n = m)) = b) : (execOp ρ ⟨d, .binOp .neq 3 x y 3, ty, ps, af, g⟩).run Try.prog X = .ok (.value (.bool b)) X := by
  subst h
  simp only [execOp, e, e2]
  go_simp
  by_cases q : n = m <;> simp [q]
theorem op_eql9 {x y : Operand} {n m : ByteArray} {b : Bool} (e : ρ x = .string n) (e2 : ρ y = .string m) (h : decide (n = m) = b) : (execOp ρ ⟨d, .binOp .eql 9 x y 9, ty, ps, af, g⟩).run Try.prog X = .ok (.value (.bool b)) X := by
  subst h
  simp only [execOp, e, e2]
  rw [← same_eq]
  go_simp
theorem op_pick {x y z : Operand} {b : Bool} {v : Value} (e : ρ x = .bool b) (e2 : (if b then ρ y else ρ z) = v) : (execOp ρ ⟨d, .pick x y z, ty, ps, af, g⟩).run Try.prog X = .ok (.value v) X := by
  simp only [execOp, e]
  cases b <;> simp only [Bool.false_eq_true, if_true, if_false] at e2 <;> simp [asBool, e2]
theorem op_not {x : Operand} {b : Bool} (e : ρ x = .bool b) : (execOp ρ ⟨d, .unOp .not 4 x, ty, ps, af, g⟩).run Try.prog X = .ok (.value (.bool (!b))) X := by
  simp only [execOp, e]
  go_simp
theorem op_storeAt {T : TypeId} {x y : Operand} {v p : Value} {X' : World} (e : ρ x = p) (e2 : ρ y = v) (h : (Instr.storeAt T p v).run Try.prog X = .ok () X') : (execOp ρ ⟨d, .store T x y, ty, ps, af, g⟩).run Try.prog X = .ok .skip X' := by
  simp only [execOp, e, e2]
  simp [h]
theorem op_loadAt {T : TypeId} {x : Operand} {v p : Value} (e : ρ x = p) (h : (Instr.loadAt T p).run Try.prog X = .ok v X) : (execOp ρ ⟨d, .load T x, ty, ps, af, g⟩).run Try.prog X = .ok (.value v) X := by
  simp only [execOp, e]
  simp [h]
theorem op_store3 {x y : Operand} {B i : Nat} {n : Int} {u : Value} (e : ρ x = .pointer (some ⟨B, i, none⟩)) (e2 : ρ y = .int .i64 n) (c : X.cell? ⟨B, i, none⟩ = some u) (z : X.frozen? ⟨B, i, none⟩ = false) : (execOp ρ ⟨d, .store 3 x y, ty, ps, af, g⟩).run Try.prog X = .ok .skip (X.setCell ⟨B, i, none⟩ (.int .i64 n)) := by
  simp only [execOp, e, e2]
  go_simp
theorem op_call0 {f : FuncId} {at' : Array TypeId} (hf : ∀ f, ρ (.func f) = .func (.func f) #[] #[]) (hc : Sem.run Try.prog (callFunc f #[]) X = .ok (.enter f #[]) X)  : (execOp ρ ⟨d, .call { callee := .value (.func f), args := #[], argTypes := at' }, ty, ps, af, g⟩).run Try.prog X = .ok (.enter f #[]) X := by
  simp only [execOp]
  simp [resolve, hf, Deferred.ofValue, invoke, hc]
theorem op_call1 {f : FuncId} {x0 : Operand} {v0 : Value} {at' : Array TypeId} (hf : ∀ f, ρ (.func f) = .func (.func f) #[] #[]) (hc : Sem.run Try.prog (callFunc f #[v0]) X = .ok (.enter f #[v0]) X) (e0 : ρ x0 = v0) : (execOp ρ ⟨d, .call { callee := .value (.func f), args := #[x0], argTypes := at' }, ty, ps, af, g⟩).run Try.prog X = .ok (.enter f #[v0]) X := by
  simp only [execOp]
  simp [resolve, hf, e0, Deferred.ofValue, invoke, hc]
theorem op_call2 {f : FuncId} {x0 x1 : Operand} {v0 v1 : Value} {at' : Array TypeId} (hf : ∀ f, ρ (.func f) = .func (.func f) #[] #[]) (hc : Sem.run Try.prog (callFunc f #[v0, v1]) X = .ok (.enter f #[v0, v1]) X) (e0 : ρ x0 = v0) (e1 : ρ x1 = v1) : (execOp ρ ⟨d, .call { callee := .value (.func f), args := #[x0, x1], argTypes := at' }, ty, ps, af, g⟩).run Try.prog X = .ok (.enter f #[v0, v1]) X := by
  simp only [execOp]
  simp [resolve, hf, e0, e1, Deferred.ofValue, invoke, hc]
theorem op_call3 {f : FuncId} {x0 x1 x2 : Operand} {v0 v1 v2 : Value} {at' : Array TypeId} (hf : ∀ f, ρ (.func f) = .func (.func f) #[] #[]) (hc : Sem.run Try.prog (callFunc f #[v0, v1, v2]) X = .ok (.enter f #[v0, v1, v2]) X) (e0 : ρ x0 = v0) (e1 : ρ x1 = v1) (e2 : ρ x2 = v2) : (execOp ρ ⟨d, .call { callee := .value (.func f), args := #[x0, x1, x2], argTypes := at' }, ty, ps, af, g⟩).run Try.prog X = .ok (.enter f #[v0, v1, v2]) X := by
  simp only [execOp]
  simp [resolve, hf, e0, e1, e2, Deferred.ofValue, invoke, hc]
theorem op_call4 {f : FuncId} {x0 x1 x2 x3 : Operand} {v0 v1 v2 v3 : Value} {at' : Array TypeId} (hf : ∀ f, ρ (.func f) = .func (.func f) #[] #[]) (hc : Sem.run Try.prog (callFunc f #[v0, v1, v2, v3]) X = .ok (.enter f #[v0, v1, v2, v3]) X) (e0 : ρ x0 = v0) (e1 : ρ x1 = v1) (e2 : ρ x2 = v2) (e3 : ρ x3 = v3) : (execOp ρ ⟨d, .call { callee := .value (.func f), args := #[x0, x1, x2, x3], argTypes := at' }, ty, ps, af, g⟩).run Try.prog X = .ok (.enter f #[v0, v1, v2, v3]) X := by
  simp only [execOp]
  simp [resolve, hf, e0, e1, e2, e3, Deferred.ofValue, invoke, hc]
theorem op_callV1 {f : FuncId} {cs : Array Value} {h x0 : Operand} {v0 : Value} {at' : Array TypeId} (hf : ρ h = .func (.func f) #[] cs) (hc : Sem.run Try.prog (callFunc f (#[v0] ++ cs)) X = .ok (.enter f (#[v0] ++ cs)) X) (e0 : ρ x0 = v0) : (execOp ρ ⟨d, .call { callee := .value h, args := #[x0], argTypes := at' }, ty, ps, af, g⟩).run Try.prog X = .ok (.enter f (#[v0] ++ cs)) X := by
  simp only [execOp]
  simp [resolve, hf, e0, Deferred.ofValue, invoke, hc]
theorem op_f82_0 {x : Operand} {B o : Nat} (e : ρ x = .pointer (some ⟨B, o, none⟩)) : (execOp ρ ⟨d, .fieldAddr 82 x 0, ty, ps, af, g⟩).run Try.prog X = .ok (.value (.pointer (some ⟨B, o, none⟩))) X := by
  simp only [execOp, e]
  go_simp
theorem op_f82_1 {x : Operand} {B o : Nat} (e : ρ x = .pointer (some ⟨B, o, none⟩)) : (execOp ρ ⟨d, .fieldAddr 82 x 1, ty, ps, af, g⟩).run Try.prog X = .ok (.value (.pointer (some ⟨B, o + 3, none⟩))) X := by
  simp only [execOp, e]
  go_simp
theorem op_f82_2 {x : Operand} {B o : Nat} (e : ρ x = .pointer (some ⟨B, o, none⟩)) : (execOp ρ ⟨d, .fieldAddr 82 x 2, ty, ps, af, g⟩).run Try.prog X = .ok (.value (.pointer (some ⟨B, o + 4, none⟩))) X := by
  simp only [execOp, e]
  go_simp
theorem op_f82_3 {x : Operand} {B o : Nat} (e : ρ x = .pointer (some ⟨B, o, none⟩)) : (execOp ρ ⟨d, .fieldAddr 82 x 3, ty, ps, af, g⟩).run Try.prog X = .ok (.value (.pointer (some ⟨B, o + 5, none⟩))) X := by
  simp only [execOp, e]
  go_simp
theorem op_f82_4 {x : Operand} {B o : Nat} (e : ρ x = .pointer (some ⟨B, o, none⟩)) : (execOp ρ ⟨d, .fieldAddr 82 x 4, ty, ps, af, g⟩).run Try.prog X = .ok (.value (.pointer (some ⟨B, o + 6, none⟩))) X := by
  simp only [execOp, e]
  go_simp
theorem op_f82_5 {x : Operand} {B o : Nat} (e : ρ x = .pointer (some ⟨B, o, none⟩)) : (execOp ρ ⟨d, .fieldAddr 82 x 5, ty, ps, af, g⟩).run Try.prog X = .ok (.value (.pointer (some ⟨B, o + 7, none⟩))) X := by
  simp only [execOp, e]
  go_simp
theorem op_f82_6 {x : Operand} {B o : Nat} (e : ρ x = .pointer (some ⟨B, o, none⟩)) : (execOp ρ ⟨d, .fieldAddr 82 x 6, ty, ps, af, g⟩).run Try.prog X = .ok (.value (.pointer (some ⟨B, o + 8, none⟩))) X := by
  simp only [execOp, e]
  go_simp
theorem op_f82_7 {x : Operand} {B o : Nat} (e : ρ x = .pointer (some ⟨B, o, none⟩)) : (execOp ρ ⟨d, .fieldAddr 82 x 7, ty, ps, af, g⟩).run Try.prog X = .ok (.value (.pointer (some ⟨B, o + 9, none⟩))) X := by
  simp only [execOp, e]
  go_simp
theorem op_f82_8 {x : Operand} {B o : Nat} (e : ρ x = .pointer (some ⟨B, o, none⟩)) : (execOp ρ ⟨d, .fieldAddr 82 x 8, ty, ps, af, g⟩).run Try.prog X = .ok (.value (.pointer (some ⟨B, o + 10, none⟩))) X := by
  simp only [execOp, e]
  go_simp
theorem op_f82_9 {x : Operand} {B o : Nat} (e : ρ x = .pointer (some ⟨B, o, none⟩)) : (execOp ρ ⟨d, .fieldAddr 82 x 9, ty, ps, af, g⟩).run Try.prog X = .ok (.value (.pointer (some ⟨B, o + 11, none⟩))) X := by
  simp only [execOp, e]
  go_simp
theorem op_f82_10 {x : Operand} {B o : Nat} (e : ρ x = .pointer (some ⟨B, o, none⟩)) : (execOp ρ ⟨d, .fieldAddr 82 x 10, ty, ps, af, g⟩).run Try.prog X = .ok (.value (.pointer (some ⟨B, o + 12, none⟩))) X := by
  simp only [execOp, e]
  go_simp
theorem op_f82_11 {x : Operand} {B o : Nat} (e : ρ x = .pointer (some ⟨B, o, none⟩)) : (execOp ρ ⟨d, .fieldAddr 82 x 11, ty, ps, af, g⟩).run Try.prog X = .ok (.value (.pointer (some ⟨B, o + 13, none⟩))) X := by
  simp only [execOp, e]
  go_simp
theorem op_f76_0 {x : Operand} {B o : Nat} (e : ρ x = .pointer (some ⟨B, o, none⟩)) : (execOp ρ ⟨d, .fieldAddr 76 x 0, ty, ps, af, g⟩).run Try.prog X = .ok (.value (.pointer (some ⟨B, o, none⟩))) X := by
  simp only [execOp, e]
  go_simp
theorem op_f76_1 {x : Operand} {B o : Nat} (e : ρ x = .pointer (some ⟨B, o, none⟩)) : (execOp ρ ⟨d, .fieldAddr 76 x 1, ty, ps, af, g⟩).run Try.prog X = .ok (.value (.pointer (some ⟨B, o + 1, none⟩))) X := by
  simp only [execOp, e]
  go_simp
theorem op_f76_2 {x : Operand} {B o : Nat} (e : ρ x = .pointer (some ⟨B, o, none⟩)) : (execOp ρ ⟨d, .fieldAddr 76 x 2, ty, ps, af, g⟩).run Try.prog X = .ok (.value (.pointer (some ⟨B, o + 4, none⟩))) X := by
  simp only [execOp, e]
  go_simp
theorem op_f76_3 {x : Operand} {B o : Nat} (e : ρ x = .pointer (some ⟨B, o, none⟩)) : (execOp ρ ⟨d, .fieldAddr 76 x 3, ty, ps, af, g⟩).run Try.prog X = .ok (.value (.pointer (some ⟨B, o + 7, none⟩))) X := by
  simp only [execOp, e]
  go_simp
theorem op_f76_4 {x : Operand} {B o : Nat} (e : ρ x = .pointer (some ⟨B, o, none⟩)) : (execOp ρ ⟨d, .fieldAddr 76 x 4, ty, ps, af, g⟩).run Try.prog X = .ok (.value (.pointer (some ⟨B, o + 8, none⟩))) X := by
  simp only [execOp, e]
  go_simp
theorem op_f76_5 {x : Operand} {B o : Nat} (e : ρ x = .pointer (some ⟨B, o, none⟩)) : (execOp ρ ⟨d, .fieldAddr 76 x 5, ty, ps, af, g⟩).run Try.prog X = .ok (.value (.pointer (some ⟨B, o + 9, none⟩))) X := by
  simp only [execOp, e]
  go_simp
theorem op_f76_6 {x : Operand} {B o : Nat} (e : ρ x = .pointer (some ⟨B, o, none⟩)) : (execOp ρ ⟨d, .fieldAddr 76 x 6, ty, ps, af, g⟩).run Try.prog X = .ok (.value (.pointer (some ⟨B, o + 10, none⟩))) X := by
  simp only [execOp, e]
  go_simp
theorem op_f76_7 {x : Operand} {B o : Nat} (e : ρ x = .pointer (some ⟨B, o, none⟩)) : (execOp ρ ⟨d, .fieldAddr 76 x 7, ty, ps, af, g⟩).run Try.prog X = .ok (.value (.pointer (some ⟨B, o + 11, none⟩))) X := by
  simp only [execOp, e]
  go_simp
theorem op_f76_8 {x : Operand} {B o : Nat} (e : ρ x = .pointer (some ⟨B, o, none⟩)) : (execOp ρ ⟨d, .fieldAddr 76 x 8, ty, ps, af, g⟩).run Try.prog X = .ok (.value (.pointer (some ⟨B, o + 12, none⟩))) X := by
  simp only [execOp, e]
  go_simp
theorem op_f76_9 {x : Operand} {B o : Nat} (e : ρ x = .pointer (some ⟨B, o, none⟩)) : (execOp ρ ⟨d, .fieldAddr 76 x 9, ty, ps, af, g⟩).run Try.prog X = .ok (.value (.pointer (some ⟨B, o + 13, none⟩))) X := by
  simp only [execOp, e]
  go_simp
theorem op_f76_10 {x : Operand} {B o : Nat} (e : ρ x = .pointer (some ⟨B, o, none⟩)) : (execOp ρ ⟨d, .fieldAddr 76 x 10, ty, ps, af, g⟩).run Try.prog X = .ok (.value (.pointer (some ⟨B, o + 14, none⟩))) X := by
  simp only [execOp, e]
  go_simp
theorem op_f76_11 {x : Operand} {B o : Nat} (e : ρ x = .pointer (some ⟨B, o, none⟩)) : (execOp ρ ⟨d, .fieldAddr 76 x 11, ty, ps, af, g⟩).run Try.prog X = .ok (.value (.pointer (some ⟨B, o + 15, none⟩))) X := by
  simp only [execOp, e]
  go_simp
theorem op_f76_12 {x : Operand} {B o : Nat} (e : ρ x = .pointer (some ⟨B, o, none⟩)) : (execOp ρ ⟨d, .fieldAddr 76 x 12, ty, ps, af, g⟩).run Try.prog X = .ok (.value (.pointer (some ⟨B, o + 26, none⟩))) X := by
  simp only [execOp, e]
  go_simp
theorem op_f76_13 {x : Operand} {B o : Nat} (e : ρ x = .pointer (some ⟨B, o, none⟩)) : (execOp ρ ⟨d, .fieldAddr 76 x 13, ty, ps, af, g⟩).run Try.prog X = .ok (.value (.pointer (some ⟨B, o + 27, none⟩))) X := by
  simp only [execOp, e]
  go_simp
theorem op_f76_14 {x : Operand} {B o : Nat} (e : ρ x = .pointer (some ⟨B, o, none⟩)) : (execOp ρ ⟨d, .fieldAddr 76 x 14, ty, ps, af, g⟩).run Try.prog X = .ok (.value (.pointer (some ⟨B, o + 28, none⟩))) X := by
  simp only [execOp, e]
  go_simp
theorem op_f76_15 {x : Operand} {B o : Nat} (e : ρ x = .pointer (some ⟨B, o, none⟩)) : (execOp ρ ⟨d, .fieldAddr 76 x 15, ty, ps, af, g⟩).run Try.prog X = .ok (.value (.pointer (some ⟨B, o + 29, none⟩))) X := by
  simp only [execOp, e]
  go_simp
theorem op_f78_0 {x : Operand} {B o : Nat} (e : ρ x = .pointer (some ⟨B, o, none⟩)) : (execOp ρ ⟨d, .fieldAddr 78 x 0, ty, ps, af, g⟩).run Try.prog X = .ok (.value (.pointer (some ⟨B, o, none⟩))) X := by
  simp only [execOp, e]
  go_simp
theorem op_f78_1 {x : Operand} {B o : Nat} (e : ρ x = .pointer (some ⟨B, o, none⟩)) : (execOp ρ ⟨d, .fieldAddr 78 x 1, ty, ps, af, g⟩).run Try.prog X = .ok (.value (.pointer (some ⟨B, o + 1, none⟩))) X := by
  simp only [execOp, e]
  go_simp
theorem op_f84_0 {x : Operand} {B o : Nat} (e : ρ x = .pointer (some ⟨B, o, none⟩)) : (execOp ρ ⟨d, .fieldAddr 84 x 0, ty, ps, af, g⟩).run Try.prog X = .ok (.value (.pointer (some ⟨B, o, none⟩))) X := by
  simp only [execOp, e]
  go_simp
theorem op_f84_1 {x : Operand} {B o : Nat} (e : ρ x = .pointer (some ⟨B, o, none⟩)) : (execOp ρ ⟨d, .fieldAddr 84 x 1, ty, ps, af, g⟩).run Try.prog X = .ok (.value (.pointer (some ⟨B, o + 1, none⟩))) X := by
  simp only [execOp, e]
  go_simp
theorem op_f84_2 {x : Operand} {B o : Nat} (e : ρ x = .pointer (some ⟨B, o, none⟩)) : (execOp ρ ⟨d, .fieldAddr 84 x 2, ty, ps, af, g⟩).run Try.prog X = .ok (.value (.pointer (some ⟨B, o + 2, none⟩))) X := by
  simp only [execOp, e]
  go_simp
theorem op_f67_0 {x : Operand} {B o : Nat} (e : ρ x = .pointer (some ⟨B, o, none⟩)) : (execOp ρ ⟨d, .fieldAddr 67 x 0, ty, ps, af, g⟩).run Try.prog X = .ok (.value (.pointer (some ⟨B, o, none⟩))) X := by
  simp only [execOp, e]
  go_simp
theorem op_f67_1 {x : Operand} {B o : Nat} (e : ρ x = .pointer (some ⟨B, o, none⟩)) : (execOp ρ ⟨d, .fieldAddr 67 x 1, ty, ps, af, g⟩).run Try.prog X = .ok (.value (.pointer (some ⟨B, o + 2, none⟩))) X := by
  simp only [execOp, e]
  go_simp
theorem op_f62_0 {x : Operand} {B o : Nat} (e : ρ x = .pointer (some ⟨B, o, none⟩)) : (execOp ρ ⟨d, .fieldAddr 62 x 0, ty, ps, af, g⟩).run Try.prog X = .ok (.value (.pointer (some ⟨B, o, none⟩))) X := by
  simp only [execOp, e]
  go_simp
theorem op_f62_1 {x : Operand} {B o : Nat} (e : ρ x = .pointer (some ⟨B, o, none⟩)) : (execOp ρ ⟨d, .fieldAddr 62 x 1, ty, ps, af, g⟩).run Try.prog X = .ok (.value (.pointer (some ⟨B, o + 1, none⟩))) X := by
  simp only [execOp, e]
  go_simp
theorem op_f64_0 {x : Operand} {B o : Nat} (e : ρ x = .pointer (some ⟨B, o, none⟩)) : (execOp ρ ⟨d, .fieldAddr 64 x 0, ty, ps, af, g⟩).run Try.prog X = .ok (.value (.pointer (some ⟨B, o, none⟩))) X := by
  simp only [execOp, e]
  go_simp
theorem op_f64_1 {x : Operand} {B o : Nat} (e : ρ x = .pointer (some ⟨B, o, none⟩)) : (execOp ρ ⟨d, .fieldAddr 64 x 1, ty, ps, af, g⟩).run Try.prog X = .ok (.value (.pointer (some ⟨B, o + 1, none⟩))) X := by
  simp only [execOp, e]
  go_simp
theorem op_f69_0 {x : Operand} {B o : Nat} (e : ρ x = .pointer (some ⟨B, o, none⟩)) : (execOp ρ ⟨d, .fieldAddr 69 x 0, ty, ps, af, g⟩).run Try.prog X = .ok (.value (.pointer (some ⟨B, o, none⟩))) X := by
  simp only [execOp, e]
  go_simp
theorem op_f69_1 {x : Operand} {B o : Nat} (e : ρ x = .pointer (some ⟨B, o, none⟩)) : (execOp ρ ⟨d, .fieldAddr 69 x 1, ty, ps, af, g⟩).run Try.prog X = .ok (.value (.pointer (some ⟨B, o + 1, none⟩))) X := by
  simp only [execOp, e]
  go_simp
theorem op_f69_2 {x : Operand} {B o : Nat} (e : ρ x = .pointer (some ⟨B, o, none⟩)) : (execOp ρ ⟨d, .fieldAddr 69 x 2, ty, ps, af, g⟩).run Try.prog X = .ok (.value (.pointer (some ⟨B, o + 2, none⟩))) X := by
  simp only [execOp, e]
  go_simp
theorem op_f26_0 {x : Operand} {B o : Nat} (e : ρ x = .pointer (some ⟨B, o, none⟩)) : (execOp ρ ⟨d, .fieldAddr 26 x 0, ty, ps, af, g⟩).run Try.prog X = .ok (.value (.pointer (some ⟨B, o, none⟩))) X := by
  simp only [execOp, e]
  go_simp
theorem op_f26_1 {x : Operand} {B o : Nat} (e : ρ x = .pointer (some ⟨B, o, none⟩)) : (execOp ρ ⟨d, .fieldAddr 26 x 1, ty, ps, af, g⟩).run Try.prog X = .ok (.value (.pointer (some ⟨B, o + 1, none⟩))) X := by
  simp only [execOp, e]
  go_simp
theorem op_f48_0 {x : Operand} {B o : Nat} (e : ρ x = .pointer (some ⟨B, o, none⟩)) : (execOp ρ ⟨d, .fieldAddr 48 x 0, ty, ps, af, g⟩).run Try.prog X = .ok (.value (.pointer (some ⟨B, o, none⟩))) X := by
  simp only [execOp, e]
  go_simp
theorem op_f48_1 {x : Operand} {B o : Nat} (e : ρ x = .pointer (some ⟨B, o, none⟩)) : (execOp ρ ⟨d, .fieldAddr 48 x 1, ty, ps, af, g⟩).run Try.prog X = .ok (.value (.pointer (some ⟨B, o + 1, none⟩))) X := by
  simp only [execOp, e]
  go_simp
theorem op_f48_2 {x : Operand} {B o : Nat} (e : ρ x = .pointer (some ⟨B, o, none⟩)) : (execOp ρ ⟨d, .fieldAddr 48 x 2, ty, ps, af, g⟩).run Try.prog X = .ok (.value (.pointer (some ⟨B, o + 2, none⟩))) X := by
  simp only [execOp, e]
  go_simp
theorem op_f93_0 {x : Operand} {B o : Nat} (e : ρ x = .pointer (some ⟨B, o, none⟩)) : (execOp ρ ⟨d, .fieldAddr 93 x 0, ty, ps, af, g⟩).run Try.prog X = .ok (.value (.pointer (some ⟨B, o, none⟩))) X := by
  simp only [execOp, e]
  go_simp
theorem op_f93_1 {x : Operand} {B o : Nat} (e : ρ x = .pointer (some ⟨B, o, none⟩)) : (execOp ρ ⟨d, .fieldAddr 93 x 1, ty, ps, af, g⟩).run Try.prog X = .ok (.value (.pointer (some ⟨B, o + 1, none⟩))) X := by
  simp only [execOp, e]
  go_simp
theorem op_f50_0 {x : Operand} {B o : Nat} (e : ρ x = .pointer (some ⟨B, o, none⟩)) : (execOp ρ ⟨d, .fieldAddr 50 x 0, ty, ps, af, g⟩).run Try.prog X = .ok (.value (.pointer (some ⟨B, o, none⟩))) X := by
  simp only [execOp, e]
  go_simp
theorem op_f50_1 {x : Operand} {B o : Nat} (e : ρ x = .pointer (some ⟨B, o, none⟩)) : (execOp ρ ⟨d, .fieldAddr 50 x 1, ty, ps, af, g⟩).run Try.prog X = .ok (.value (.pointer (some ⟨B, o + 1, none⟩))) X := by
  simp only [execOp, e]
  go_simp
theorem op_f50_2 {x : Operand} {B o : Nat} (e : ρ x = .pointer (some ⟨B, o, none⟩)) : (execOp ρ ⟨d, .fieldAddr 50 x 2, ty, ps, af, g⟩).run Try.prog X = .ok (.value (.pointer (some ⟨B, o + 2, none⟩))) X := by
  simp only [execOp, e]
  go_simp
theorem op_f50_3 {x : Operand} {B o : Nat} (e : ρ x = .pointer (some ⟨B, o, none⟩)) : (execOp ρ ⟨d, .fieldAddr 50 x 3, ty, ps, af, g⟩).run Try.prog X = .ok (.value (.pointer (some ⟨B, o + 3, none⟩))) X := by
  simp only [execOp, e]
  go_simp
theorem op_f50_4 {x : Operand} {B o : Nat} (e : ρ x = .pointer (some ⟨B, o, none⟩)) : (execOp ρ ⟨d, .fieldAddr 50 x 4, ty, ps, af, g⟩).run Try.prog X = .ok (.value (.pointer (some ⟨B, o + 4, none⟩))) X := by
  simp only [execOp, e]
  go_simp
theorem op_i55 {x y : Operand} {B o n m i : Nat} (e : ρ x = .slice (some ⟨B, o, none⟩) n m) (e2 : ρ y = .int .i64 (i : Int)) (h : i < n) : (execOp ρ ⟨d, .indexAddr 55 x y, ty, ps, af, g⟩).run Try.prog X = .ok (.value (.pointer (some ⟨B, o + i * 31, none⟩))) X := by
  have k0 : (0 : Int) ≤ (i : Int) := by omega
  have k1 : (i : Int) < (n : Int) := by omega
  simp only [execOp, e, e2]
  go_simp
theorem op_len55 {x : Operand} {a : Option Addr} {n m : Nat} (e : ρ x = .slice a n m) : (execOp ρ ⟨d, .call { callee := .builtin .len, args := #[x], argTypes := #[55] }, ty, ps, af, g⟩).run Try.prog X = .ok (.value (.int .i64 (n : Int))) X := by
  simp only [execOp, resolve, invoke, builtin, Sem.run_bind, Sem.run_pure, Result.andThen_ok, List.map_toArray, List.map_cons, List.map_nil, e]
  go_simp
theorem op_load55 {x : Operand} {B i : Nat} {a : Option Addr} {n m : Nat} (e : ρ x = .pointer (some ⟨B, i, none⟩)) (y : X.cell? ⟨B, i, none⟩ = some (.slice a n m)) : (execOp ρ ⟨d, .load 55 x, ty, ps, af, g⟩).run Try.prog X = .ok (.value (.slice a n m)) X := by
  simp only [execOp, e]
  go_simp
theorem op_store55 {x y : Operand} {B i : Nat} {a : Option Addr} {n m : Nat} {u : Value} (e : ρ x = .pointer (some ⟨B, i, none⟩)) (e2 : ρ y = .slice a n m) (c : X.cell? ⟨B, i, none⟩ = some u) (z : X.frozen? ⟨B, i, none⟩ = false) : (execOp ρ ⟨d, .store 55 x y, ty, ps, af, g⟩).run Try.prog X = .ok .skip (X.setCell ⟨B, i, none⟩ (.slice a n m)) := by
  simp only [execOp, e, e2]
  go_simp
theorem op_i79 {x y : Operand} {B o n m i : Nat} (e : ρ x = .slice (some ⟨B, o, none⟩) n m) (e2 : ρ y = .int .i64 (i : Int)) (h : i < n) : (execOp ρ ⟨d, .indexAddr 79 x y, ty, ps, af, g⟩).run Try.prog X = .ok (.value (.pointer (some ⟨B, o + i * 3, none⟩))) X := by
  have k0 : (0 : Int) ≤ (i : Int) := by omega
  have k1 : (i : Int) < (n : Int) := by omega
  simp only [execOp, e, e2]
  go_simp
theorem op_len79 {x : Operand} {a : Option Addr} {n m : Nat} (e : ρ x = .slice a n m) : (execOp ρ ⟨d, .call { callee := .builtin .len, args := #[x], argTypes := #[79] }, ty, ps, af, g⟩).run Try.prog X = .ok (.value (.int .i64 (n : Int))) X := by
  simp only [execOp, resolve, invoke, builtin, Sem.run_bind, Sem.run_pure, Result.andThen_ok, List.map_toArray, List.map_cons, List.map_nil, e]
  go_simp
theorem op_load79 {x : Operand} {B i : Nat} {a : Option Addr} {n m : Nat} (e : ρ x = .pointer (some ⟨B, i, none⟩)) (y : X.cell? ⟨B, i, none⟩ = some (.slice a n m)) : (execOp ρ ⟨d, .load 79 x, ty, ps, af, g⟩).run Try.prog X = .ok (.value (.slice a n m)) X := by
  simp only [execOp, e]
  go_simp
theorem op_store79 {x y : Operand} {B i : Nat} {a : Option Addr} {n m : Nat} {u : Value} (e : ρ x = .pointer (some ⟨B, i, none⟩)) (e2 : ρ y = .slice a n m) (c : X.cell? ⟨B, i, none⟩ = some u) (z : X.frozen? ⟨B, i, none⟩ = false) : (execOp ρ ⟨d, .store 79 x y, ty, ps, af, g⟩).run Try.prog X = .ok .skip (X.setCell ⟨B, i, none⟩ (.slice a n m)) := by
  simp only [execOp, e, e2]
  go_simp
theorem op_i22 {x y : Operand} {B o n m i : Nat} (e : ρ x = .slice (some ⟨B, o, none⟩) n m) (e2 : ρ y = .int .i64 (i : Int)) (h : i < n) : (execOp ρ ⟨d, .indexAddr 22 x y, ty, ps, af, g⟩).run Try.prog X = .ok (.value (.pointer (some ⟨B, o + i * 3, none⟩))) X := by
  have k0 : (0 : Int) ≤ (i : Int) := by omega
  have k1 : (i : Int) < (n : Int) := by omega
  simp only [execOp, e, e2]
  go_simp
theorem op_len22 {x : Operand} {a : Option Addr} {n m : Nat} (e : ρ x = .slice a n m) : (execOp ρ ⟨d, .call { callee := .builtin .len, args := #[x], argTypes := #[22] }, ty, ps, af, g⟩).run Try.prog X = .ok (.value (.int .i64 (n : Int))) X := by
  simp only [execOp, resolve, invoke, builtin, Sem.run_bind, Sem.run_pure, Result.andThen_ok, List.map_toArray, List.map_cons, List.map_nil, e]
  go_simp
theorem op_load22 {x : Operand} {B i : Nat} {a : Option Addr} {n m : Nat} (e : ρ x = .pointer (some ⟨B, i, none⟩)) (y : X.cell? ⟨B, i, none⟩ = some (.slice a n m)) : (execOp ρ ⟨d, .load 22 x, ty, ps, af, g⟩).run Try.prog X = .ok (.value (.slice a n m)) X := by
  simp only [execOp, e]
  go_simp
theorem op_store22 {x y : Operand} {B i : Nat} {a : Option Addr} {n m : Nat} {u : Value} (e : ρ x = .pointer (some ⟨B, i, none⟩)) (e2 : ρ y = .slice a n m) (c : X.cell? ⟨B, i, none⟩ = some u) (z : X.frozen? ⟨B, i, none⟩ = false) : (execOp ρ ⟨d, .store 22 x y, ty, ps, af, g⟩).run Try.prog X = .ok .skip (X.setCell ⟨B, i, none⟩ (.slice a n m)) := by
  simp only [execOp, e, e2]
  go_simp
theorem op_i23 {x y : Operand} {B o n m i : Nat} (e : ρ x = .slice (some ⟨B, o, none⟩) n m) (e2 : ρ y = .int .i64 (i : Int)) (h : i < n) : (execOp ρ ⟨d, .indexAddr 23 x y, ty, ps, af, g⟩).run Try.prog X = .ok (.value (.pointer (some ⟨B, o + i * 3, none⟩))) X := by
  have k0 : (0 : Int) ≤ (i : Int) := by omega
  have k1 : (i : Int) < (n : Int) := by omega
  simp only [execOp, e, e2]
  go_simp
theorem op_len23 {x : Operand} {a : Option Addr} {n m : Nat} (e : ρ x = .slice a n m) : (execOp ρ ⟨d, .call { callee := .builtin .len, args := #[x], argTypes := #[23] }, ty, ps, af, g⟩).run Try.prog X = .ok (.value (.int .i64 (n : Int))) X := by
  simp only [execOp, resolve, invoke, builtin, Sem.run_bind, Sem.run_pure, Result.andThen_ok, List.map_toArray, List.map_cons, List.map_nil, e]
  go_simp
theorem op_load23 {x : Operand} {B i : Nat} {a : Option Addr} {n m : Nat} (e : ρ x = .pointer (some ⟨B, i, none⟩)) (y : X.cell? ⟨B, i, none⟩ = some (.slice a n m)) : (execOp ρ ⟨d, .load 23 x, ty, ps, af, g⟩).run Try.prog X = .ok (.value (.slice a n m)) X := by
  simp only [execOp, e]
  go_simp
theorem op_store23 {x y : Operand} {B i : Nat} {a : Option Addr} {n m : Nat} {u : Value} (e : ρ x = .pointer (some ⟨B, i, none⟩)) (e2 : ρ y = .slice a n m) (c : X.cell? ⟨B, i, none⟩ = some u) (z : X.frozen? ⟨B, i, none⟩ = false) : (execOp ρ ⟨d, .store 23 x y, ty, ps, af, g⟩).run Try.prog X = .ok .skip (X.setCell ⟨B, i, none⟩ (.slice a n m)) := by
  simp only [execOp, e, e2]
  go_simp
theorem op_i65 {x y : Operand} {B o n m i : Nat} (e : ρ x = .slice (some ⟨B, o, none⟩) n m) (e2 : ρ y = .int .i64 (i : Int)) (h : i < n) : (execOp ρ ⟨d, .indexAddr 65 x y, ty, ps, af, g⟩).run Try.prog X = .ok (.value (.pointer (some ⟨B, o + i * 2, none⟩))) X := by
  have k0 : (0 : Int) ≤ (i : Int) := by omega
  have k1 : (i : Int) < (n : Int) := by omega
  simp only [execOp, e, e2]
  go_simp
theorem op_len65 {x : Operand} {a : Option Addr} {n m : Nat} (e : ρ x = .slice a n m) : (execOp ρ ⟨d, .call { callee := .builtin .len, args := #[x], argTypes := #[65] }, ty, ps, af, g⟩).run Try.prog X = .ok (.value (.int .i64 (n : Int))) X := by
  simp only [execOp, resolve, invoke, builtin, Sem.run_bind, Sem.run_pure, Result.andThen_ok, List.map_toArray, List.map_cons, List.map_nil, e]
  go_simp
theorem op_load65 {x : Operand} {B i : Nat} {a : Option Addr} {n m : Nat} (e : ρ x = .pointer (some ⟨B, i, none⟩)) (y : X.cell? ⟨B, i, none⟩ = some (.slice a n m)) : (execOp ρ ⟨d, .load 65 x, ty, ps, af, g⟩).run Try.prog X = .ok (.value (.slice a n m)) X := by
  simp only [execOp, e]
  go_simp
theorem op_store65 {x y : Operand} {B i : Nat} {a : Option Addr} {n m : Nat} {u : Value} (e : ρ x = .pointer (some ⟨B, i, none⟩)) (e2 : ρ y = .slice a n m) (c : X.cell? ⟨B, i, none⟩ = some u) (z : X.frozen? ⟨B, i, none⟩ = false) : (execOp ρ ⟨d, .store 65 x y, ty, ps, af, g⟩).run Try.prog X = .ok .skip (X.setCell ⟨B, i, none⟩ (.slice a n m)) := by
  simp only [execOp, e, e2]
  go_simp
theorem op_i90 {x y : Operand} {B o n m i : Nat} (e : ρ x = .slice (some ⟨B, o, none⟩) n m) (e2 : ρ y = .int .i64 (i : Int)) (h : i < n) : (execOp ρ ⟨d, .indexAddr 90 x y, ty, ps, af, g⟩).run Try.prog X = .ok (.value (.pointer (some ⟨B, o + i * 3, none⟩))) X := by
  have k0 : (0 : Int) ≤ (i : Int) := by omega
  have k1 : (i : Int) < (n : Int) := by omega
  simp only [execOp, e, e2]
  go_simp
theorem op_len90 {x : Operand} {a : Option Addr} {n m : Nat} (e : ρ x = .slice a n m) : (execOp ρ ⟨d, .call { callee := .builtin .len, args := #[x], argTypes := #[90] }, ty, ps, af, g⟩).run Try.prog X = .ok (.value (.int .i64 (n : Int))) X := by
  simp only [execOp, resolve, invoke, builtin, Sem.run_bind, Sem.run_pure, Result.andThen_ok, List.map_toArray, List.map_cons, List.map_nil, e]
  go_simp
theorem op_load90 {x : Operand} {B i : Nat} {a : Option Addr} {n m : Nat} (e : ρ x = .pointer (some ⟨B, i, none⟩)) (y : X.cell? ⟨B, i, none⟩ = some (.slice a n m)) : (execOp ρ ⟨d, .load 90 x, ty, ps, af, g⟩).run Try.prog X = .ok (.value (.slice a n m)) X := by
  simp only [execOp, e]
  go_simp
theorem op_store90 {x y : Operand} {B i : Nat} {a : Option Addr} {n m : Nat} {u : Value} (e : ρ x = .pointer (some ⟨B, i, none⟩)) (e2 : ρ y = .slice a n m) (c : X.cell? ⟨B, i, none⟩ = some u) (z : X.frozen? ⟨B, i, none⟩ = false) : (execOp ρ ⟨d, .store 90 x y, ty, ps, af, g⟩).run Try.prog X = .ok .skip (X.setCell ⟨B, i, none⟩ (.slice a n m)) := by
  simp only [execOp, e, e2]
  go_simp
theorem op_append {T : TypeId} {s x : Operand} {v1 v2 v' : Value} {X' : World} (hs : ρ s = v1) (hx : ρ x = v2) (hrun : (Builtin.append_ #[T, T] T #[v1, v2]).run Try.prog X = .ok v' X') : (execOp ρ ⟨d, .call { callee := .builtin .append, args := #[s, x], argTypes := #[T, T] }, T, ps, af, g⟩).run Try.prog X = .ok (.value v') X' := by
  simp only [execOp, resolve, invoke, builtin, Sem.run_bind, Sem.run_pure, Result.andThen_ok, List.map_toArray, List.map_cons, List.map_nil, hs, hx, hrun]
theorem op_load31 {x : Operand} {B i : Nat} {n : Int} (e : ρ x = .pointer (some ⟨B, i, none⟩)) (y : X.cell? ⟨B, i, none⟩ = some (.int .i64 n)) : (execOp ρ ⟨d, .load 31 x, ty, ps, af, g⟩).run Try.prog X = .ok (.value (.int .i64 n)) X := by
  simp only [execOp, e]
  go_simp
theorem op_load38 {x : Operand} {B i A : Nat} (e : ρ x = .pointer (some ⟨B, i, none⟩)) (y : X.cell? ⟨B, i, none⟩ = some (.pointer (some ⟨A, 0, none⟩))) : (execOp ρ ⟨d, .load 38 x, ty, ps, af, g⟩).run Try.prog X = .ok (.value (.pointer (some ⟨A, 0, none⟩))) X := by
  simp only [execOp, e]
  go_simp
theorem op_max3 {x y : Operand} {a b : Int} (e : ρ x = .int .i64 a) (e2 : ρ y = .int .i64 b) : (execOp ρ ⟨d, .call { callee := .builtin .max, args := #[x, y], argTypes := #[3, 3] }, ty, ps, af, g⟩).run Try.prog X = .ok (.value (.int .i64 (if a < b then b else a))) X := by
  simp only [execOp, resolve, invoke, builtin, Sem.run_bind, Sem.run_pure, Result.andThen_ok, List.map_toArray, List.map_cons, List.map_nil, e, e2]
  go_simp
theorem op_add3 {x y : Operand} {n m r : Int} (e : ρ x = .int .i64 n) (e2 : ρ y = .int .i64 m) (h : n + m = r) (h1 : -9223372036854775808 ≤ r) (h2 : r ≤ 9223372036854775807) : (execOp ρ ⟨d, .binOp .add 3 x y 3, ty, ps, af, g⟩).run Try.prog X = .ok (.value (.int .i64 r)) X := by
  subst h
  simp only [execOp, e, e2]
  go_simp
  rw [IntKind.wrap_i64]
  omega
end
end Go.Proofs.Ytfokgalgdlajlaa
