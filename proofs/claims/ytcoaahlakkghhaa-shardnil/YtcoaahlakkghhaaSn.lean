/- append at rows of a shard; the walks of enter and end. -/
import Derived.Test.YtcoaahlakkghhaaSm
namespace Go.Proofs.Ytcoaahlakkghhaa
open Go.RowKit
theorem info_rc : (Try.prog.info? 101).map (fun i => (i.zero, i.size, i.bytes)) = some (some (.agg #[.int .i64 0, .int .i64 0, .int .i64 0, .int .i64 0]), 4, 32) := by kernel_rfl
theorem run_rc {w : World} {v : Value} {base n m c : Nat} {xs news : List Value} {ad : Option Addr} (ho : w.ownsRow base 101 4 v n xs) (hb : base ≤ w.heap.size) (hs : (ad = none ∧ m = 0 ∧ c = 0 ∧ news = []) ∨ ∃ a, ad = some a ∧ news.length = m * 4 ∧ (∀ j u, news[j]? = some u → w.cell? (a.add j) = some u))
    (h1 : ∀ u ∈ news, u.oneCell' = true) (hnm : (n + m) * 32 ≤ 140737488355328) : ∃ ad' cap' w', (Builtin.append_ #[32, 32] 32 #[v, .slice ad m c]).run Try.prog w = .ok (.slice ad' (n + m) cap') w' ∧ w'.ownsRow base 101 4 (.slice ad' (n + m) cap') (n + m) (xs ++ news) ∧ w.grownBy w' v.ownBlock ∧ ((Value.slice ad' (n + m) cap').ownBlock = v.ownBlock ∨ (Value.slice ad' (n + m) cap').ownBlock = some w.heap.size) := by
  obtain ⟨i0, hi, hz0, hz1, hz2⟩ := info_parts info_rc
  rcases hs with ⟨rfl, rfl, rfl, rfl⟩ | ⟨a, rfl, hl, hc⟩
  · obtain ⟨ad', cap', rfl⟩ := own_shape ho
    refine ⟨ad', cap', w, ?_, by simpa using ho, ⟨rfl, rfl, rfl, Nat.le_refl _, fun _ _ _ => rfl⟩, .inl rfl⟩
    exact run_append_owned_none (P := Try.prog) (w := w) base 32 32 101 i0 4 Try.underlying32 hi _ n xs ho
  · obtain ⟨v', w', hr, ho', hg, _, hat⟩ := run_append_own_at (P := Try.prog) (w := w) base 32 32 101 i0 _ 4 32 Try.underlying32 hi hz0 hz1 hz2 rfl (by decide) v n xs ho a m c news hl hc h1 (by unfold maxLen; omega) hnm hb
    obtain ⟨ad', cap', rfl⟩ := own_shape ho'
    exact ⟨ad', cap', w', hr, ho', hg, hat⟩
theorem info_td : (Try.prog.info? 37).map (fun i => (i.zero, i.size, i.bytes)) = some (some (.agg #[.int .i64 0, .int .i64 0, .int .i64 0]), 3, 24) := by kernel_rfl
theorem run_td {w : World} {v : Value} {base n m c : Nat} {xs news : List Value} {ad : Option Addr} (ho : w.ownsRow base 37 3 v n xs) (hb : base ≤ w.heap.size) (hs : (ad = none ∧ m = 0 ∧ c = 0 ∧ news = []) ∨ ∃ a, ad = some a ∧ news.length = m * 3 ∧ (∀ j u, news[j]? = some u → w.cell? (a.add j) = some u))
    (h1 : ∀ u ∈ news, u.oneCell' = true) (hnm : (n + m) * 24 ≤ 140737488355328) : ∃ ad' cap' w', (Builtin.append_ #[33, 33] 33 #[v, .slice ad m c]).run Try.prog w = .ok (.slice ad' (n + m) cap') w' ∧ w'.ownsRow base 37 3 (.slice ad' (n + m) cap') (n + m) (xs ++ news) ∧ w.grownBy w' v.ownBlock ∧ ((Value.slice ad' (n + m) cap').ownBlock = v.ownBlock ∨ (Value.slice ad' (n + m) cap').ownBlock = some w.heap.size) := by
  obtain ⟨i0, hi, hz0, hz1, hz2⟩ := info_parts info_td
  rcases hs with ⟨rfl, rfl, rfl, rfl⟩ | ⟨a, rfl, hl, hc⟩
  · obtain ⟨ad', cap', rfl⟩ := own_shape ho
    refine ⟨ad', cap', w, ?_, by simpa using ho, ⟨rfl, rfl, rfl, Nat.le_refl _, fun _ _ _ => rfl⟩, .inl rfl⟩
    exact run_append_owned_none (P := Try.prog) (w := w) base 33 33 37 i0 3 Try.underlying33 hi _ n xs ho
  · obtain ⟨v', w', hr, ho', hg, _, hat⟩ := run_append_own_at (P := Try.prog) (w := w) base 33 33 37 i0 _ 3 24 Try.underlying33 hi hz0 hz1 hz2 rfl (by decide) v n xs ho a m c news hl hc h1 (by unfold maxLen; omega) hnm hb
    obtain ⟨ad', cap', rfl⟩ := own_shape ho'
    exact ⟨ad', cap', w', hr, ho', hg, hat⟩
theorem info_lk : (Try.prog.info? 68).map (fun i => (i.zero, i.size, i.bytes)) = some (some (.agg #[.int .i64 0, .int .i64 0, .int .i64 0, .int .i64 0, .int .i64 0, .slice none 0 0, .slice none 0 0]), 7, 88) := by kernel_rfl
theorem run_lk {w : World} {v : Value} {base n m c : Nat} {xs news : List Value} {ad : Option Addr} (ho : w.ownsRow base 68 7 v n xs) (hb : base ≤ w.heap.size) (hs : (ad = none ∧ m = 0 ∧ c = 0 ∧ news = []) ∨ ∃ a, ad = some a ∧ news.length = m * 7 ∧ (∀ j u, news[j]? = some u → w.cell? (a.add j) = some u))
    (h1 : ∀ u ∈ news, u.oneCell' = true) (hnm : (n + m) * 88 ≤ 140737488355328) : ∃ ad' cap' w', (Builtin.append_ #[31, 31] 31 #[v, .slice ad m c]).run Try.prog w = .ok (.slice ad' (n + m) cap') w' ∧ w'.ownsRow base 68 7 (.slice ad' (n + m) cap') (n + m) (xs ++ news) ∧ w.grownBy w' v.ownBlock ∧ ((Value.slice ad' (n + m) cap').ownBlock = v.ownBlock ∨ (Value.slice ad' (n + m) cap').ownBlock = some w.heap.size) := by
  obtain ⟨i0, hi, hz0, hz1, hz2⟩ := info_parts info_lk
  rcases hs with ⟨rfl, rfl, rfl, rfl⟩ | ⟨a, rfl, hl, hc⟩
  · obtain ⟨ad', cap', rfl⟩ := own_shape ho
    refine ⟨ad', cap', w, ?_, by simpa using ho, ⟨rfl, rfl, rfl, Nat.le_refl _, fun _ _ _ => rfl⟩, .inl rfl⟩
    exact run_append_owned_none (P := Try.prog) (w := w) base 31 31 68 i0 7 Try.underlying31 hi _ n xs ho
  · obtain ⟨v', w', hr, ho', hg, _, hat⟩ := run_append_own_at (P := Try.prog) (w := w) base 31 31 68 i0 _ 7 88 Try.underlying31 hi hz0 hz1 hz2 rfl (by decide) v n xs ho a m c news hl hc h1 (by unfold maxLen; omega) hnm hb
    obtain ⟨ad', cap', rfl⟩ := own_shape ho'
    exact ⟨ad', cap', w', hr, ho', hg, hat⟩
theorem info_sn : (Try.prog.info? 57).map (fun i => (i.zero, i.size, i.bytes)) = some (some (.agg #[.string ⟨#[]⟩, .string ⟨#[]⟩]), 2, 32) := by kernel_rfl
theorem run_sn {w : World} {v : Value} {base n m c : Nat} {xs news : List Value} {ad : Option Addr} (ho : w.ownsRow base 57 2 v n xs) (hb : base ≤ w.heap.size) (hs : (ad = none ∧ m = 0 ∧ c = 0 ∧ news = []) ∨ ∃ a, ad = some a ∧ news.length = m * 2 ∧ (∀ j u, news[j]? = some u → w.cell? (a.add j) = some u))
    (h1 : ∀ u ∈ news, u.oneCell' = true) (hnm : (n + m) * 32 ≤ 140737488355328) : ∃ ad' cap' w', (Builtin.append_ #[66, 66] 66 #[v, .slice ad m c]).run Try.prog w = .ok (.slice ad' (n + m) cap') w' ∧ w'.ownsRow base 57 2 (.slice ad' (n + m) cap') (n + m) (xs ++ news) ∧ w.grownBy w' v.ownBlock ∧ ((Value.slice ad' (n + m) cap').ownBlock = v.ownBlock ∨ (Value.slice ad' (n + m) cap').ownBlock = some w.heap.size) := by
  obtain ⟨i0, hi, hz0, hz1, hz2⟩ := info_parts info_sn
  rcases hs with ⟨rfl, rfl, rfl, rfl⟩ | ⟨a, rfl, hl, hc⟩
  · obtain ⟨ad', cap', rfl⟩ := own_shape ho
    refine ⟨ad', cap', w, ?_, by simpa using ho, ⟨rfl, rfl, rfl, Nat.le_refl _, fun _ _ _ => rfl⟩, .inl rfl⟩
    exact run_append_owned_none (P := Try.prog) (w := w) base 66 66 57 i0 2 Try.underlying66 hi _ n xs ho
  · obtain ⟨v', w', hr, ho', hg, _, hat⟩ := run_append_own_at (P := Try.prog) (w := w) base 66 66 57 i0 _ 2 32 Try.underlying66 hi hz0 hz1 hz2 rfl (by decide) v n xs ho a m c news hl hc h1 (by unfold maxLen; omega) hnm hb
    obtain ⟨ad', cap', rfl⟩ := own_shape ho'
    exact ⟨ad', cap', w', hr, ho', hg, hat⟩
theorem info_wr : (Try.prog.info? 55).map (fun i => (i.zero, i.size, i.bytes)) = some (some (.agg #[.string ⟨#[]⟩, .string ⟨#[]⟩, .bool false]), 3, 40) := by kernel_rfl
theorem run_wr {w : World} {v : Value} {base n m c : Nat} {xs news : List Value} {ad : Option Addr} (ho : w.ownsRow base 55 3 v n xs) (hb : base ≤ w.heap.size) (hs : (ad = none ∧ m = 0 ∧ c = 0 ∧ news = []) ∨ ∃ a, ad = some a ∧ news.length = m * 3 ∧ (∀ j u, news[j]? = some u → w.cell? (a.add j) = some u))
    (h1 : ∀ u ∈ news, u.oneCell' = true) (hnm : (n + m) * 40 ≤ 140737488355328) : ∃ ad' cap' w', (Builtin.append_ #[39, 39] 39 #[v, .slice ad m c]).run Try.prog w = .ok (.slice ad' (n + m) cap') w' ∧ w'.ownsRow base 55 3 (.slice ad' (n + m) cap') (n + m) (xs ++ news) ∧ w.grownBy w' v.ownBlock ∧ ((Value.slice ad' (n + m) cap').ownBlock = v.ownBlock ∨ (Value.slice ad' (n + m) cap').ownBlock = some w.heap.size) := by
  obtain ⟨i0, hi, hz0, hz1, hz2⟩ := info_parts info_wr
  rcases hs with ⟨rfl, rfl, rfl, rfl⟩ | ⟨a, rfl, hl, hc⟩
  · obtain ⟨ad', cap', rfl⟩ := own_shape ho
    refine ⟨ad', cap', w, ?_, by simpa using ho, ⟨rfl, rfl, rfl, Nat.le_refl _, fun _ _ _ => rfl⟩, .inl rfl⟩
    exact run_append_owned_none (P := Try.prog) (w := w) base 39 39 55 i0 3 Try.underlying39 hi _ n xs ho
  · obtain ⟨v', w', hr, ho', hg, _, hat⟩ := run_append_own_at (P := Try.prog) (w := w) base 39 39 55 i0 _ 3 40 Try.underlying39 hi hz0 hz1 hz2 rfl (by decide) v n xs ho a m c news hl hc h1 (by unfold maxLen; omega) hnm hb
    obtain ⟨ad', cap', rfl⟩ := own_shape ho'
    exact ⟨ad', cap', w', hr, ho', hg, hat⟩
section
variable {ρ : Operand → Value} {X : World} {d : Option Tmp} {ty : TypeId} {ps : String} {af : Array Edge} {g : Option (Nat × Bool)}
theorem op_appendT {T : TypeId} {s x : Operand} {v1 v2 v' : Value} {X' : World} (hs : ρ s = v1) (hx : ρ x = v2) (hrun : (Builtin.append_ #[T, T] T #[v1, v2]).run Try.prog X = .ok v' X') : (execOp ρ ⟨d, .call { callee := .builtin .append, args := #[s, x], argTypes := #[T, T] }, T, ps, af, g⟩).run Try.prog X = .ok (.value v') X' := by
  simp only [execOp, resolve, invoke, builtin, Sem.run_bind, Sem.run_pure, Result.andThen_ok, List.map_toArray, List.map_cons, List.map_nil, hs, hx, hrun]
theorem op_load32 {x : Operand} {B i : Nat} {a : Option Addr} {n m : Nat} (e : ρ x = .pointer (some ⟨B, i, none⟩)) (y : X.cell? ⟨B, i, none⟩ = some (.slice a n m)) : (execOp ρ ⟨d, .load 32 x, ty, ps, af, g⟩).run Try.prog X = .ok (.value (.slice a n m)) X := by
  simp only [execOp, e]
  go_simp
theorem op_store32 {x y : Operand} {B i : Nat} {a : Option Addr} {n m : Nat} {u : Value} (e : ρ x = .pointer (some ⟨B, i, none⟩)) (e2 : ρ y = .slice a n m) (c : X.cell? ⟨B, i, none⟩ = some u) (z : X.frozen? ⟨B, i, none⟩ = false) : (execOp ρ ⟨d, .store 32 x y, ty, ps, af, g⟩).run Try.prog X = .ok .skip (X.setCell ⟨B, i, none⟩ (.slice a n m)) := by
  simp only [execOp, e, e2]
  go_simp
theorem op_load33 {x : Operand} {B i : Nat} {a : Option Addr} {n m : Nat} (e : ρ x = .pointer (some ⟨B, i, none⟩)) (y : X.cell? ⟨B, i, none⟩ = some (.slice a n m)) : (execOp ρ ⟨d, .load 33 x, ty, ps, af, g⟩).run Try.prog X = .ok (.value (.slice a n m)) X := by
  simp only [execOp, e]
  go_simp
theorem op_store33 {x y : Operand} {B i : Nat} {a : Option Addr} {n m : Nat} {u : Value} (e : ρ x = .pointer (some ⟨B, i, none⟩)) (e2 : ρ y = .slice a n m) (c : X.cell? ⟨B, i, none⟩ = some u) (z : X.frozen? ⟨B, i, none⟩ = false) : (execOp ρ ⟨d, .store 33 x y, ty, ps, af, g⟩).run Try.prog X = .ok .skip (X.setCell ⟨B, i, none⟩ (.slice a n m)) := by
  simp only [execOp, e, e2]
  go_simp
theorem op_load39 {x : Operand} {B i : Nat} {a : Option Addr} {n m : Nat} (e : ρ x = .pointer (some ⟨B, i, none⟩)) (y : X.cell? ⟨B, i, none⟩ = some (.slice a n m)) : (execOp ρ ⟨d, .load 39 x, ty, ps, af, g⟩).run Try.prog X = .ok (.value (.slice a n m)) X := by
  simp only [execOp, e]
  go_simp
theorem op_store39 {x y : Operand} {B i : Nat} {a : Option Addr} {n m : Nat} {u : Value} (e : ρ x = .pointer (some ⟨B, i, none⟩)) (e2 : ρ y = .slice a n m) (c : X.cell? ⟨B, i, none⟩ = some u) (z : X.frozen? ⟨B, i, none⟩ = false) : (execOp ρ ⟨d, .store 39 x y, ty, ps, af, g⟩).run Try.prog X = .ok .skip (X.setCell ⟨B, i, none⟩ (.slice a n m)) := by
  simp only [execOp, e, e2]
  go_simp
theorem op_load38 {x : Operand} {B i : Nat} {a : Option Addr} {n m : Nat} (e : ρ x = .pointer (some ⟨B, i, none⟩)) (y : X.cell? ⟨B, i, none⟩ = some (.slice a n m)) : (execOp ρ ⟨d, .load 38 x, ty, ps, af, g⟩).run Try.prog X = .ok (.value (.slice a n m)) X := by
  simp only [execOp, e]
  go_simp
theorem op_store38 {x y : Operand} {B i : Nat} {a : Option Addr} {n m : Nat} {u : Value} (e : ρ x = .pointer (some ⟨B, i, none⟩)) (e2 : ρ y = .slice a n m) (c : X.cell? ⟨B, i, none⟩ = some u) (z : X.frozen? ⟨B, i, none⟩ = false) : (execOp ρ ⟨d, .store 38 x y, ty, ps, af, g⟩).run Try.prog X = .ok .skip (X.setCell ⟨B, i, none⟩ (.slice a n m)) := by
  simp only [execOp, e, e2]
  go_simp
theorem op_load66 {x : Operand} {B i : Nat} {a : Option Addr} {n m : Nat} (e : ρ x = .pointer (some ⟨B, i, none⟩)) (y : X.cell? ⟨B, i, none⟩ = some (.slice a n m)) : (execOp ρ ⟨d, .load 66 x, ty, ps, af, g⟩).run Try.prog X = .ok (.value (.slice a n m)) X := by
  simp only [execOp, e]
  go_simp
theorem op_store66 {x y : Operand} {B i : Nat} {a : Option Addr} {n m : Nat} {u : Value} (e : ρ x = .pointer (some ⟨B, i, none⟩)) (e2 : ρ y = .slice a n m) (c : X.cell? ⟨B, i, none⟩ = some u) (z : X.frozen? ⟨B, i, none⟩ = false) : (execOp ρ ⟨d, .store 66 x y, ty, ps, af, g⟩).run Try.prog X = .ok .skip (X.setCell ⟨B, i, none⟩ (.slice a n m)) := by
  simp only [execOp, e, e2]
  go_simp
theorem op_store31 {x y : Operand} {B i : Nat} {a : Option Addr} {n m : Nat} {u : Value} (e : ρ x = .pointer (some ⟨B, i, none⟩)) (e2 : ρ y = .slice a n m) (c : X.cell? ⟨B, i, none⟩ = some u) (z : X.frozen? ⟨B, i, none⟩ = false) : (execOp ρ ⟨d, .store 31 x y, ty, ps, af, g⟩).run Try.prog X = .ok .skip (X.setCell ⟨B, i, none⟩ (.slice a n m)) := by
  simp only [execOp, e, e2]
  go_simp
theorem op_load101 {x : Operand} {B i : Nat} {t : Rc} (e : ρ x = .pointer (some ⟨B, i, none⟩)) (y0 : X.cell? ⟨B, i, none⟩ = some (.int .i64 t.1.1)) (y1 : X.cell? ⟨B, i + 1, none⟩ = some (.int .i64 t.1.2.1)) (y2 : X.cell? ⟨B, i + 2, none⟩ = some (.int .i64 t.1.2.2)) (y3 : X.cell? ⟨B, i + 3, none⟩ = some (.int .i64 t.2)) : (execOp ρ ⟨d, .load 101 x, ty, ps, af, g⟩).run Try.prog X = .ok (.value (.agg #[.int .i64 t.1.1, .int .i64 t.1.2.1, .int .i64 t.1.2.2, .int .i64 t.2])) X := by
  simp only [execOp, e]
  go_simp
theorem op_s32 {x : Operand} {t : Rc} (e : ρ x = .agg #[.int .i64 t.1.1, .int .i64 t.1.2.1, .int .i64 t.1.2.2, .int .i64 t.2]) : (execOp ρ ⟨d, .buildSlice 32 1 #[(0, x)], ty, ps, af, g⟩).run Try.prog X = .ok (.value (.slice (some ⟨X.heap.size, 0, none⟩) 1 1)) (X.alloc (.cells #[.int .i64 t.1.1, .int .i64 t.1.2.1, .int .i64 t.1.2.2, .int .i64 t.2] 101)) := by
  simp only [execOp]
  simp [e]
  go_simp
theorem op_s33 {x : Operand} {t : Td} (e : ρ x = tdV t) : (execOp ρ ⟨d, .buildSlice 33 1 #[(0, x)], ty, ps, af, g⟩).run Try.prog X = .ok (.value (.slice (some ⟨X.heap.size, 0, none⟩) 1 1)) (X.alloc (.cells #[.int .i64 t.1, .int .i64 t.2.1, .int .i64 t.2.2] 37)) := by
  simp only [execOp]
  simp [e]
  go_simp
theorem op_f101_0 {x : Operand} {B o : Nat} (e : ρ x = .pointer (some ⟨B, o, none⟩)) : (execOp ρ ⟨d, .fieldAddr 101 x 0, ty, ps, af, g⟩).run Try.prog X = .ok (.value (.pointer (some ⟨B, o, none⟩))) X := by
  simp only [execOp, e]
  go_simp
theorem op_f101_1 {x : Operand} {B o : Nat} (e : ρ x = .pointer (some ⟨B, o, none⟩)) : (execOp ρ ⟨d, .fieldAddr 101 x 1, ty, ps, af, g⟩).run Try.prog X = .ok (.value (.pointer (some ⟨B, o + 3, none⟩))) X := by
  simp only [execOp, e]
  go_simp
theorem op_b154 : (execOp ρ ⟨d, .build 154 #[], ty, ps, af, g⟩).run Try.prog X = .ok (.value (.agg #[])) X := by
  simp only [execOp]
  go_simp
theorem op_mapUpdate {T : TypeId} {x y z : Operand} {v1 v2 v3 : Value} {X' : World} (e : ρ x = v1) (e2 : ρ y = v2) (e3 : ρ z = v3) (h : (Instr.mapUpdate T v1 v2 v3).run Try.prog X = .ok () X') : (execOp ρ ⟨d, .mapUpdate T x y z, ty, ps, af, g⟩).run Try.prog X = .ok .skip X' := by
  simp only [execOp, e, e2, e3]
  simp [h]
end
section
variable {w w' : World} {A : Nat} {S S1 S2 : Nat → Prop} {s s' : Sh} {P M N : Nat} {G : List Gl} {lv rv ov : Value}
/-- A step that leaves a shard. -/
def Step (w : World) (A : Nat) (S : Nat → Prop) (s' : Sh) (w' : World) : Prop := ∃ S', Sy w' A S' s' ∧ (∀ j, S' j → Gro S w w' j) ∧ Fr w w' S
theorem Step.mk {G' : List Gl} {lv' rv' ov' : Value} (hS : ∀ k, S k ↔ S1 k ∨ S2 k) (h' : Sx w' A S1 (Gro S2 w w') s' P M N G' lv' rv' ov') (hf : Fr w w' S2) : Step w A S s' w' := by
  refine ⟨fun k => S1 k ∨ Gro S2 w w' k, ⟨S1, _, P, M, N, G', lv', rv', ov', h', fun k => Iff.rfl⟩, fun j q => ?_, hf.mono fun j q => (hS j).2 (.inr q)⟩
  rcases q with q | q | q
  · exact .inl ((hS j).2 (.inl q))
  · exact .inl ((hS j).2 (.inr q))
  · exact .inr q
set_option maxHeartbeats 4000000 in
set_option maxRecDepth 100000 in
theorem enter_any (h : Sx w A S1 S2 s P M N G lv rv ov) (hS : ∀ k, S k ↔ S1 k ∨ S2 k) {r : Rc} (hn : recOf s.recs r.1 = none) (ht : TdOk r.1) (hfew : s.recs.length < 800000) : Calls Try.prog 46 #[.pointer (some ⟨A, 0, none⟩), .agg #[.int .i64 r.1.1, .int .i64 r.1.2.1, .int .i64 r.1.2.2, .int .i64 r.2]] w fun e w' => e = .returned (.tuple #[]) ∧ Step w A S { s with recs := s.recs ++ [r] } w' := by
  obtain ⟨W, hW⟩ : ∃ W, W = w.alloc (.cells #[.int .i64 r.1.1, .int .i64 r.1.2.1, .int .i64 r.1.2.2, .int .i64 r.2] 101) := ⟨_, rfl⟩
  have hb : Below w.heap.size w W := by rw [hW]; exact (Below.refl _ w).alloc (Nat.le_refl _) _
  obtain ⟨Y, hY⟩ : ∃ Y, w.heap.size = Y := ⟨_, rfl⟩
  have jY : W.heap[Y]? = some (.cells #[.int .i64 r.1.1, .int .i64 r.1.2.1, .int .i64 r.1.2.2, .int .i64 r.2] 101 (0, 0)) := by rw [hW, ← hY]; exact heap_alloc_new w _
  have b0 : W.cell? ⟨Y, 0, none⟩ = some (.int .i64 r.1.1) := cell_blk jY 0
  have b1 : W.cell? ⟨Y, 1, none⟩ = some (.int .i64 r.1.2.1) := cell_blk jY 1
  have b2 : W.cell? ⟨Y, 2, none⟩ = some (.int .i64 r.1.2.2) := cell_blk jY 2
  have b3 : W.cell? ⟨Y, 3, none⟩ = some (.int .i64 r.2) := cell_blk jY 3
  have hx := h.on hb
  obtain ⟨rad, rcap, erv⟩ := own_shape hx.rcs
  have a2 : W.cell? ⟨A, 2, none⟩ = some (.slice rad s.recs.length rcap) := by rw [← erv]; exact cell_blk hx.ob 2
  have hnA : ¬ (Value.slice rad s.recs.length rcap).ownBlock = some A := fun e => by
    rw [← erv] at e
    obtain ⟨cs, t⟩ := own_tag hx.rcs A e
    exact tag_ne t hx.ob (by decide) rfl
  have hrl : ∀ j, (Value.slice rad s.recs.length rcap).ownBlock = some j → j < w.heap.size := fun j e => by
    rw [← erv] at e
    exact h.lt j (h.cr j e)
  have hnY : ¬ (Value.slice rad s.recs.length rcap).ownBlock = some Y := fun e => by have := hrl Y e; omega
  have hYs : w.heap.size ≤ W.heap.size := hb.size
  have HX := Lib.hid hx
  have HRW : Hid (W.ownsRow 0 101 4 (.slice rad s.recs.length rcap) s.recs.length (s.recs.flatMap rcL)) := by rw [← erv]; exact hx.rcs
  have HER := Lib.hid erv
  have HW := Lib.hid hW
  have HY := Lib.hid hY
  have HB := Lib.hid hb
  have HJY := Lib.hid jY
  have HRL := Lib.hid hrl
  have HH := Lib.hid h
  have HSS := Lib.hid hS
  clear hW hY hb jY hx erv h hrl hS
  go_enter Try.func46, Try.ntmps46
  go_upto_region 1 with fail
  rw [← HW.out, HY.out]
  refine wp_region_once 7 (fun d X9 => Fr W X9 (fun j => (Value.slice rad s.recs.length rcap).ownBlock = some j) ∧ (d = false → Below W.heap.size W X9)) (fun X9 X' => Below X9.heap.size X9 X') (fun X9 X' => Fr X9 X' (fun j => (Value.slice rad s.recs.length rcap).ownBlock = some j)) [
    fun v9 _ => v9 = .pointer (some ⟨A, 0, none⟩),
    fun v9 _ => v9 = .pointer (some ⟨A, 0, none⟩),
    fun v9 _ => v9 = .pointer (some ⟨A, 0, none⟩),
    fun v9 _ => v9 = .pointer (some ⟨A, 2, none⟩),
    fun v9 _ => v9 = (.slice rad s.recs.length rcap),
    fun v9 _ => v9 = .agg #[.int .i64 r.1.1, .int .i64 r.1.2.1, .int .i64 r.1.2.2, .int .i64 r.2],
    fun v9 X9 => ∃ Z1, v9 = lv1 Z1 ∧ W.heap.size ≤ Z1 ∧ X9.heap[Z1]? = some (.cells #[.int .i64 r.1.1, .int .i64 r.1.2.1, .int .i64 r.1.2.2, .int .i64 r.2] 101 (0, 0)),
    fun v9 X9 => ∃ ad9 cap9, v9 = .slice ad9 (s.recs.length + 1) cap9 ∧ X9.ownsRow 0 101 4 v9 (s.recs.length + 1) ((s.recs ++ [r]).flatMap rcL) ∧ (∀ j, (v9).ownBlock = some j → (Value.slice rad s.recs.length rcap).ownBlock = some j ∨ W.heap.size ≤ j) ∧ Fr W X9 (fun j => (Value.slice rad s.recs.length rcap).ownBlock = some j),
    fun v9 _ => v9 = .pointer (some ⟨A, 0, none⟩),
    fun v9 _ => v9 = .pointer (some ⟨A, 2, none⟩)]
    (fun _ X8 => ∃ ad9 cap9 X9, X8 = X9.setCell ⟨A, 2, none⟩ (.slice ad9 (s.recs.length + 1) cap9) ∧ X9.ownsRow 0 101 4 (.slice ad9 (s.recs.length + 1) cap9) (s.recs.length + 1) ((s.recs ++ [r]).flatMap rcL) ∧ (∀ j, (Value.slice ad9 (s.recs.length + 1) cap9).ownBlock = some j → (Value.slice rad s.recs.length rcap).ownBlock = some j ∨ W.heap.size ≤ j) ∧ Fr W X9 (fun j => (Value.slice rad s.recs.length rcap).ownBlock = some j)) rfl (by kernel_rfl) (by kernel_rfl) (by kernel_rfl) (by kernel_rfl) ?st ?stm ?g0 (by decide) ?os ?la ?en
  case st => exact ⟨fun _ _ _ _ h => h, fun _ _ _ _ h => h, fun _ _ _ _ h => h, fun _ _ _ _ h => h, fun _ _ _ _ h => h, fun _ _ _ _ h => h, fun _ _ _ hs ⟨Z1, e, z1, z2⟩ => ⟨Z1, e, z1, (hs.block _ (blk_lt z2)).trans z2⟩, fun _ _ _ hs ⟨x1, x2, e, o1, o2, o3⟩ => ⟨x1, x2, e, own_below o1 hs, o2, o3.below hs⟩, fun _ _ _ _ h => h, fun _ _ _ _ h => h, trivial⟩
  case stm => exact ⟨fun _ _ _ _ h => h, fun _ _ _ _ h => h, fun _ _ _ _ h => h, fun _ _ _ _ h => h, fun _ _ _ _ h => h, fun _ _ _ _ h => h, fun _ _ _ hs ⟨Z1, e, z1, z2⟩ => ⟨Z1, e, z1, (hs.block _ (blk_lt z2) (fun e => by have z9 := HRL.out _ e; omega)).trans z2⟩, fun _ _ _ _ h => h, fun _ _ _ _ h => h, fun _ _ _ _ h => h, trivial⟩
  case g0 => exact ⟨⟨rfl, rfl, rfl, Nat.le_refl _, fun _ _ _ => rfl⟩, fun _ => ⟨rfl, rfl, rfl, Nat.le_refl _, fun _ _ => rfl⟩⟩
  case os =>
    refine ⟨?_, ?_, ?_, ?_, ?_, ?_, ?_, ?_, ?_, ?_, trivial⟩
    · exact ⟨rfl, fun _ ρ X9 d hg ho hc hf hr => Runs.val _ (op_move (show ρ (.tmp 0) = .pointer (some ⟨A, 0, none⟩) from ho 0 rfl)) ⟨hg, Below.refl _ _, rfl⟩, fun e => absurd e (by decide)⟩
    · exact ⟨rfl, fun _ ρ X9 d hg ho hc hf hr => Runs.val _ (op_move (show ρ (.tmp 0) = .pointer (some ⟨A, 0, none⟩) from ho 0 rfl)) ⟨hg, Below.refl _ _, rfl⟩, fun e => absurd e (by decide)⟩
    · exact ⟨rfl, fun _ ρ X9 d hg ho hc hf hr => Runs.val _ (op_nil (show ρ (.tmp 5) = .pointer (some ⟨A, 0, none⟩) from hr 1 5 rfl rfl)) ⟨hg, Below.refl _ _, rfl⟩, fun e => absurd e (by decide)⟩
    · exact ⟨rfl, fun _ ρ X9 d hg ho hc hf hr => Runs.val _ (op_f92_2 (show ρ (.tmp 6) = .pointer (some ⟨A, 0, none⟩) from hr 2 6 rfl rfl)) ⟨hg, Below.refl _ _, rfl⟩, fun e => absurd e (by decide)⟩
    · exact ⟨rfl, fun _ ρ X9 d hg ho hc hf hr => Runs.val _ (op_load32 (show ρ (.tmp 7) = .pointer (some ⟨A, 2, none⟩) from hr 3 7 rfl rfl) (cell_fr hg.1 hnA a2)) ⟨hg, Below.refl _ _, rfl⟩, fun e => absurd e (by decide)⟩
    · exact ⟨rfl, fun _ ρ X9 d hg ho hc hf hr => Runs.val _ (op_load101 (show ρ (.tmp 3) = .pointer (some ⟨Y, 0, none⟩) from ho 3 rfl) (cell_fr hg.1 hnY b0) (cell_fr hg.1 hnY b1) (cell_fr hg.1 hnY b2) (cell_fr hg.1 hnY b3)) ⟨hg, Below.refl _ _, rfl⟩, fun e => absurd e (by decide)⟩
    · refine ⟨rfl, fun _ ρ X9 d hg ho hc hf hr => ?_, fun e => absurd e (by decide)⟩
      have hb7 : Below X9.heap.size X9 (X9.alloc (.cells #[.int .i64 r.1.1, .int .i64 r.1.2.1, .int .i64 r.1.2.2, .int .i64 r.2] 101)) := (Below.refl _ X9).alloc (Nat.le_refl _) _
      exact Runs.val _ (op_s32 (show ρ (.tmp 9) = .agg #[.int .i64 r.1.1, .int .i64 r.1.2.1, .int .i64 r.1.2.2, .int .i64 r.2] from hr 5 9 rfl rfl)) ⟨⟨hg.1.below hb7, fun z => (hg.2 z).trans (hb7.mono (hg.2 z).size)⟩, hb7, X9.heap.size, rfl, hg.1.size, heap_alloc_new X9 _⟩
    · refine ⟨rfl, fun e => absurd rfl e, fun _ ρ X9 hg ho hc hf hr => ?_⟩
      obtain ⟨Z1, e, z1, z2⟩ : ∃ Z1, (ρ (.tmp 10)) = lv1 Z1 ∧ W.heap.size ≤ Z1 ∧ X9.heap[Z1]? = some (.cells #[.int .i64 r.1.1, .int .i64 r.1.2.1, .int .i64 r.1.2.2, .int .i64 r.2] 101 (0, 0)) := hr 6 10 rfl rfl
      have hbX := hg.2 rfl
      obtain ⟨ad9, cap9, w9, hrun, o9, g9, t9⟩ := run_rc (m := 1) (c := 1) (news := rcL r) (own_below HRW.out hbX) (Nat.zero_le _) (.inr ⟨⟨Z1, 0, none⟩, rfl, rfl, fun j u hu => by
        rw [add_at, Nat.zero_add, cell_blk z2]
        simpa using hu⟩) (fun u hu => by simp at hu; rcases hu with rfl | rfl | rfl | rfl <;> rfl) (by omega)
      have f9 : Fr X9 w9 (fun j => (Value.slice rad s.recs.length rcap).ownBlock = some j) := Fr.grown (Fr.refl X9 _) g9 (fun j hj => .inl hj)
      exact Runs.val _ (op_appendT (show ρ (.tmp 8) = (.slice rad s.recs.length rcap) from hr 4 8 rfl rfl) e hrun) ⟨⟨hg.1.trans f9, fun z => by cases z⟩, f9, ad9, cap9, rfl, by rw [List.flatMap_append, List.flatMap_singleton]; exact o9, fun j e => (by
        rcases t9 with t9 | t9
        · rw [t9] at e; exact .inl e
        · rw [t9] at e; cases e; exact .inr hbX.size), hg.1.trans f9⟩
    · exact ⟨rfl, fun _ ρ X9 d hg ho hc hf hr => Runs.val _ (op_nil (show ρ (.tmp 4) = .pointer (some ⟨A, 0, none⟩) from hr 0 4 rfl rfl)) ⟨hg, Below.refl _ _, rfl⟩, fun e => absurd e (by decide)⟩
    · exact ⟨rfl, fun _ ρ X9 d hg ho hc hf hr => Runs.val _ (op_f92_2 (show ρ (.tmp 12) = .pointer (some ⟨A, 0, none⟩) from hr 8 12 rfl rfl)) ⟨hg, Below.refl _ _, rfl⟩, fun e => absurd e (by decide)⟩
  case la =>
    refine ⟨rfl, fun ρ X9 hg ho hc hf hr => ?_⟩
    obtain ⟨ad9, cap9, e, o1, o2, o3⟩ : ∃ ad9 cap9, (ρ (.tmp 11)) = .slice ad9 (s.recs.length + 1) cap9 ∧ X9.ownsRow 0 101 4 (ρ (.tmp 11)) (s.recs.length + 1) ((s.recs ++ [r]).flatMap rcL) ∧ (∀ j, ((ρ (.tmp 11))).ownBlock = some j → (Value.slice rad s.recs.length rcap).ownBlock = some j ∨ W.heap.size ≤ j) ∧ Fr W X9 (fun j => (Value.slice rad s.recs.length rcap).ownBlock = some j) := hr 7 11 (by decide) rfl
    rw [e] at o1 o2
    have hA9 := (o3.block A (blk_lt HX.out.ob) hnA).trans HX.out.ob
    exact Runs.skips (op_store32 (show ρ (.tmp 13) = .pointer (some ⟨A, 2, none⟩) from hr 9 13 (by decide) rfl) e (cell_blk hA9 2) (frozen_blk hA9 2)) ⟨ad9, cap9, X9, rfl, o1, o2, o3⟩
  case en =>
    intro a X9 Xb v9 hF hs hd ho hv9 hr
    obtain ⟨x, hx, hxt⟩ := act_put hs hd ho
    change a = putAll _ x [4, 5, 6, 7, 8, 9, 10, 11, 12, 13] at hx
    simp only [putAll, Act.put, List.setIfInBounds_toArray, List.set_cons_zero, List.set_cons_succ] at hx
    obtain ⟨ad9, cap9, X8, rfl, o1, o2, o3⟩ := hF
    have hA8 := (o3.block A (blk_lt HX.out.ob) hnA).trans HX.out.ob
    obtain ⟨V, hV⟩ : ∃ V, V = X8.setCell ⟨A, 2, none⟩ (.slice ad9 (s.recs.length + 1) cap9) := ⟨_, rfl⟩
    have fA : Fr X8 V (fun j => j = A) := by rw [hV]; exact Fr.set (a := ⟨A, 2, none⟩) (Fr.refl X8 (fun j => j = A)) (Or.inl rfl) _
    have obV : V.heap[A]? = some (.cells #[.pointer (some ⟨P, 0, none⟩), lv, .slice ad9 (s.recs.length + 1) cap9, .map (some M), ov, .map (some N), .int .i64 s.high] 92 (0, 0)) := by rw [hV]; exact set_blk (i := 2) hA8 _
    have oV : V.ownsRow 0 101 4 (.slice ad9 (s.recs.length + 1) cap9) (s.recs.length + 1) ((s.recs ++ [r]).flatMap rcL) := row_keep o1 fA (fun j hj e => by
      obtain ⟨cs, t⟩ := own_tag o1 j hj
      have e' : j = A := e
      subst e'
      exact tag_ne t hA8 (by decide) rfl)
    have fV : Fr W V (fun j => j = A ∨ (Value.slice rad s.recs.length rcap).ownBlock = some j) := (o3.mono fun j q => .inr q).trans (fA.mono fun j q => .inl q)
    have jYV : V.heap[Y]? = some (.cells #[.int .i64 r.1.1, .int .i64 r.1.2.1, .int .i64 r.1.2.2, .int .i64 r.2] 101 (0, 0)) := (fV.block Y (blk_lt HJY.out) (fun e => by
      rcases e with e | e
      · have q1 := HH.out.lt A HH.out.cA
        have q2 := HY.out
        omega
      · exact hnY e)).trans HJY.out
    have mapW := HX.out.tm
    have mapV : Mt V M s.recs.length (fun t => (recOf s.recs t).map (fun n => .int .i64 n)) := mapW.like (fV.block M mapW.lt (fun e => by
      obtain ⟨es, cl, hM⟩ := mapW.isMap
      rcases e with e | e
      · rw [e, HX.out.ob] at hM
        cases hM
      · obtain ⟨cs, t⟩ := own_tag HRW.out M e
        rw [hM] at t
        cases t))
    have n0 : V.cell? ⟨Y, 0, none⟩ = some (.int .i64 r.1.1) := cell_blk jYV 0
    have n1 : V.cell? ⟨Y, 1, none⟩ = some (.int .i64 r.1.2.1) := cell_blk jYV 1
    have n2 : V.cell? ⟨Y, 2, none⟩ = some (.int .i64 r.1.2.2) := cell_blk jYV 2
    have n3 : V.cell? ⟨Y, 3, none⟩ = some (.int .i64 r.2) := cell_blk jYV 3
    have am : V.cell? ⟨A, 3, none⟩ = some (.map (some M)) := cell_blk obV 3
    have HOV := Lib.hid oV
    have HOBV := Lib.hid obV
    have HFV := Lib.hid fV
    have HMV := Lib.hid mapV
    have HO2 := Lib.hid o2
    have HV := Lib.hid hV
    clear hs hd ho hr hv9 hxt o1 o2 o3 hA8 fA oV fV obV mapV mapW jYV hV
    subst hx
    rw [← HV.out]
    go_upto_region 2 with fail
    refine wp_region_last (fun X9 => Below V.heap.size V X9) (fun _ _ => True) [
      fun v9 _ => v9 = .pointer (some ⟨A, 0, none⟩),
      fun v9 _ => v9 = .pointer (some ⟨A, 0, none⟩),
      fun v9 _ => v9 = .pointer (some ⟨A, 3, none⟩),
      fun v9 _ => v9 = .map (some M),
      fun v9 _ => v9 = .pointer (some ⟨Y, 0, none⟩),
      fun v9 _ => v9 = tdV r.1,
      fun v9 _ => v9 = .pointer (some ⟨Y, 3, none⟩),
      fun v9 _ => v9 = .int .i64 r.2]
      (fun _ X8 => Mt X8 M (s.recs.length + 1) (fun t => if t = r.1 then some (.int .i64 r.2) else (recOf s.recs t).map (fun n => .int .i64 n)) ∧ Fr V X8 (fun j => j = M)) rfl (by kernel_rfl) (by kernel_rfl) (by kernel_rfl) (by kernel_rfl) ?st ?g0 ?os ?la ?en
    case st => exact ⟨fun _ _ _ _ h => h, fun _ _ _ _ h => h, fun _ _ _ _ h => h, fun _ _ _ _ h => h, fun _ _ _ _ h => h, fun _ _ _ _ h => h, fun _ _ _ _ h => h, fun _ _ _ _ h => h, trivial⟩
    case g0 => exact ⟨rfl, rfl, rfl, Nat.le_refl _, fun _ _ => rfl⟩
    case os =>
      refine ⟨?_, ?_, ?_, ?_, ?_, ?_, ?_, ?_, trivial⟩
      · exact ⟨rfl, fun ρ X9 hg ho hc hf hr => Runs.val _ (op_move (show ρ (.tmp 0) = .pointer (some ⟨A, 0, none⟩) from ho 0 rfl)) ⟨hg, trivial, rfl⟩⟩
      · exact ⟨rfl, fun ρ X9 hg ho hc hf hr => Runs.val _ (op_nil (show ρ (.tmp 14) = .pointer (some ⟨A, 0, none⟩) from hr 0 14 rfl rfl)) ⟨hg, trivial, rfl⟩⟩
      · exact ⟨rfl, fun ρ X9 hg ho hc hf hr => Runs.val _ (op_f92_3 (show ρ (.tmp 15) = .pointer (some ⟨A, 0, none⟩) from hr 1 15 rfl rfl)) ⟨hg, trivial, rfl⟩⟩
      · exact ⟨rfl, fun ρ X9 hg ho hc hf hr => Runs.val _ (op_load89 (show ρ (.tmp 16) = .pointer (some ⟨A, 3, none⟩) from hr 2 16 rfl rfl) (cell_on hg am)) ⟨hg, trivial, rfl⟩⟩
      · exact ⟨rfl, fun ρ X9 hg ho hc hf hr => Runs.val _ (op_f101_0 (show ρ (.tmp 3) = .pointer (some ⟨Y, 0, none⟩) from ho 3 rfl)) ⟨hg, trivial, rfl⟩⟩
      · exact ⟨rfl, fun ρ X9 hg ho hc hf hr => Runs.val _ (op_load37 (show ρ (.tmp 18) = .pointer (some ⟨Y, 0, none⟩) from hr 4 18 rfl rfl) (cell_on hg n0) (cell_on hg n1) (cell_on hg n2)) ⟨hg, trivial, rfl⟩⟩
      · exact ⟨rfl, fun ρ X9 hg ho hc hf hr => Runs.val _ (op_f101_1 (show ρ (.tmp 3) = .pointer (some ⟨Y, 0, none⟩) from ho 3 rfl)) ⟨hg, trivial, rfl⟩⟩
      · exact ⟨rfl, fun ρ X9 hg ho hc hf hr => Runs.val _ (op_load3 (show ρ (.tmp 20) = .pointer (some ⟨Y, 3, none⟩) from hr 6 20 rfl rfl) (cell_on hg n3)) ⟨hg, trivial, rfl⟩⟩
    case la =>
      refine ⟨rfl, fun ρ X9 hg ho hc hf hr => ?_⟩
      obtain ⟨X8, hrun, hm8, hg8⟩ := (HMV.out.on hg).put Try.underlying89 (by unfold maxLen; omega) ht (.int .i64 r.2)
      exact Runs.skips (op_mapUpdate (show ρ (.tmp 17) = .map (some M) from hr 3 17 (by decide) rfl) (show ρ (.tmp 19) = tdV r.1 from hr 5 19 (by decide) rfl) (show ρ (.tmp 21) = .int .i64 r.2 from hr 7 21 (by decide) rfl) hrun) ⟨hm8, Fr.grown ((Fr.refl V _).below hg) hg8 (fun k hk => .inl (by cases hk; rfl))⟩
    case en =>
      intro a X9 Xb v9 hF hs hd ho hv9 hr
      obtain ⟨x, hx, hxt⟩ := act_put hs hd ho
      change a = putAll _ x [14, 15, 16, 17, 18, 19, 20, 21] at hx
      simp only [putAll, Act.put, List.setIfInBounds_toArray, List.set_cons_zero, List.set_cons_succ] at hx
      obtain ⟨m1, f1⟩ := hF
      have HA : Hid (Step w A S { s with recs := s.recs ++ [r] } X9) := by
        have hT0 : ¬ (fun j => j = M) A := fun e => by
          have e' : A = M := e
          obtain ⟨es, cl, hM⟩ := HMV.out.isMap
          rw [← e', HOBV.out] at hM
          cases hM
        have ob9 := (f1.block A (blk_lt HOBV.out) hT0).trans HOBV.out
        have o9 := row_keep HOV.out f1 (fun j hj e => by
          have e' : j = M := e
          subst e'
          obtain ⟨cs, t⟩ := own_tag HOV.out j hj
          obtain ⟨es, cl, hM⟩ := HMV.out.isMap
          rw [hM] at t
          cases t)
        have f9 : Fr w X9 (Three A rv M) := by
          rw [HER.out]
          have e1 : Fr W X9 (Three A (.slice rad s.recs.length rcap) M) := (HFV.out.mono fun j q => by rcases q with q | q; exact .inl q; exact .inr (.inl q)).trans (f1.mono fun j q => .inr (.inr q))
          exact ⟨e1.os.trans HB.out.os, e1.tape.trans HB.out.tape, e1.output.trans HB.out.output, Nat.le_trans HB.out.size e1.size, fun k hk hn => (e1.block k (Nat.lt_of_lt_of_le hk HB.out.size) hn).trans (HB.out.block k hk)⟩
        obtain ⟨k1, k2⟩ := HH.out.enter hn f9 ob9 o9 (fun j hj => by
          rcases HO2.out j hj with q | q
          · rw [HER.out]; exact .inl q
          · exact .inr (Nat.le_trans HB.out.size q)) m1 hfew
        exact Step.mk HSS.out k1 k2
      clear hs hd ho hr hv9 hxt m1 f1
      subst hx
      go_wp2
      refine bodyPost_end (results_none rfl _ _ _) rfl ?_
      exact ⟨rfl, HA.out⟩
set_option maxHeartbeats 4000000 in
set_option maxRecDepth 100000 in
theorem end_any (h : Sx w A S1 S2 s P M N G lv rv ov) (hS : ∀ k, S k ↔ S1 k ∨ S2 k) {t : Td} (ht : TdOk t) (hfew : s.over.length < 800000) : Calls Try.prog 47 #[.pointer (some ⟨A, 0, none⟩), tdV t] w fun e w' => e = .returned (.tuple #[]) ∧ Step w A S { s with over := s.over ++ [t] } w' := by
  obtain ⟨W, hW⟩ : ∃ W, W = w.alloc (.cells #[.int .i64 t.1, .int .i64 t.2.1, .int .i64 t.2.2] 37) := ⟨_, rfl⟩
  have hb : Below w.heap.size w W := by rw [hW]; exact (Below.refl _ w).alloc (Nat.le_refl _) _
  obtain ⟨Y, hY⟩ : ∃ Y, w.heap.size = Y := ⟨_, rfl⟩
  have jY : W.heap[Y]? = some (.cells #[.int .i64 t.1, .int .i64 t.2.1, .int .i64 t.2.2] 37 (0, 0)) := by rw [hW, ← hY]; exact heap_alloc_new w _
  have b0 : W.cell? ⟨Y, 0, none⟩ = some (.int .i64 t.1) := cell_blk jY 0
  have b1 : W.cell? ⟨Y, 1, none⟩ = some (.int .i64 t.2.1) := cell_blk jY 1
  have b2 : W.cell? ⟨Y, 2, none⟩ = some (.int .i64 t.2.2) := cell_blk jY 2
  have hx := h.on hb
  obtain ⟨rad, rcap, erv⟩ := own_shape hx.ovs
  have a4 : W.cell? ⟨A, 4, none⟩ = some (.slice rad s.over.length rcap) := by rw [← erv]; exact cell_blk hx.ob 4
  have hnA : ¬ (Value.slice rad s.over.length rcap).ownBlock = some A := fun e => by
    rw [← erv] at e
    obtain ⟨cs, t⟩ := own_tag hx.ovs A e
    exact tag_ne t hx.ob (by decide) rfl
  have hrl : ∀ j, (Value.slice rad s.over.length rcap).ownBlock = some j → j < w.heap.size := fun j e => by
    rw [← erv] at e
    exact h.lt j (h.co j e)
  have hnY : ¬ (Value.slice rad s.over.length rcap).ownBlock = some Y := fun e => by have := hrl Y e; omega
  have hYs : w.heap.size ≤ W.heap.size := hb.size
  have HX := Lib.hid hx
  have HRW : Hid (W.ownsRow 0 37 3 (.slice rad s.over.length rcap) s.over.length (s.over.flatMap tdL)) := by rw [← erv]; exact hx.ovs
  have HER := Lib.hid erv
  have HW := Lib.hid hW
  have HY := Lib.hid hY
  have HB := Lib.hid hb
  have HJY := Lib.hid jY
  have HRL := Lib.hid hrl
  have HH := Lib.hid h
  have HSS := Lib.hid hS
  clear hW hY hb jY hx erv h hrl hS
  go_enter Try.func47, Try.ntmps47
  go_upto_region 1 with fail
  rw [← HW.out, HY.out]
  refine wp_region_once 7 (fun d X9 => Fr W X9 (fun j => (Value.slice rad s.over.length rcap).ownBlock = some j) ∧ (d = false → Below W.heap.size W X9)) (fun X9 X' => Below X9.heap.size X9 X') (fun X9 X' => Fr X9 X' (fun j => (Value.slice rad s.over.length rcap).ownBlock = some j)) [
    fun v9 _ => v9 = .pointer (some ⟨A, 0, none⟩),
    fun v9 _ => v9 = .pointer (some ⟨A, 0, none⟩),
    fun v9 _ => v9 = .pointer (some ⟨A, 0, none⟩),
    fun v9 _ => v9 = .pointer (some ⟨A, 4, none⟩),
    fun v9 _ => v9 = (.slice rad s.over.length rcap),
    fun v9 _ => v9 = tdV t,
    fun v9 X9 => ∃ Z1, v9 = lv1 Z1 ∧ W.heap.size ≤ Z1 ∧ X9.heap[Z1]? = some (.cells #[.int .i64 t.1, .int .i64 t.2.1, .int .i64 t.2.2] 37 (0, 0)),
    fun v9 X9 => ∃ ad9 cap9, v9 = .slice ad9 (s.over.length + 1) cap9 ∧ X9.ownsRow 0 37 3 v9 (s.over.length + 1) ((s.over ++ [t]).flatMap tdL) ∧ (∀ j, (v9).ownBlock = some j → (Value.slice rad s.over.length rcap).ownBlock = some j ∨ W.heap.size ≤ j) ∧ Fr W X9 (fun j => (Value.slice rad s.over.length rcap).ownBlock = some j),
    fun v9 _ => v9 = .pointer (some ⟨A, 0, none⟩),
    fun v9 _ => v9 = .pointer (some ⟨A, 4, none⟩)]
    (fun _ X8 => ∃ ad9 cap9 X9, X8 = X9.setCell ⟨A, 4, none⟩ (.slice ad9 (s.over.length + 1) cap9) ∧ X9.ownsRow 0 37 3 (.slice ad9 (s.over.length + 1) cap9) (s.over.length + 1) ((s.over ++ [t]).flatMap tdL) ∧ (∀ j, (Value.slice ad9 (s.over.length + 1) cap9).ownBlock = some j → (Value.slice rad s.over.length rcap).ownBlock = some j ∨ W.heap.size ≤ j) ∧ Fr W X9 (fun j => (Value.slice rad s.over.length rcap).ownBlock = some j)) rfl (by kernel_rfl) (by kernel_rfl) (by kernel_rfl) (by kernel_rfl) ?st ?stm ?g0 (by decide) ?os ?la ?en
  case st => exact ⟨fun _ _ _ _ h => h, fun _ _ _ _ h => h, fun _ _ _ _ h => h, fun _ _ _ _ h => h, fun _ _ _ _ h => h, fun _ _ _ _ h => h, fun _ _ _ hs ⟨Z1, e, z1, z2⟩ => ⟨Z1, e, z1, (hs.block _ (blk_lt z2)).trans z2⟩, fun _ _ _ hs ⟨x1, x2, e, o1, o2, o3⟩ => ⟨x1, x2, e, own_below o1 hs, o2, o3.below hs⟩, fun _ _ _ _ h => h, fun _ _ _ _ h => h, trivial⟩
  case stm => exact ⟨fun _ _ _ _ h => h, fun _ _ _ _ h => h, fun _ _ _ _ h => h, fun _ _ _ _ h => h, fun _ _ _ _ h => h, fun _ _ _ _ h => h, fun _ _ _ hs ⟨Z1, e, z1, z2⟩ => ⟨Z1, e, z1, (hs.block _ (blk_lt z2) (fun e => by have z9 := HRL.out _ e; omega)).trans z2⟩, fun _ _ _ _ h => h, fun _ _ _ _ h => h, fun _ _ _ _ h => h, trivial⟩
  case g0 => exact ⟨⟨rfl, rfl, rfl, Nat.le_refl _, fun _ _ _ => rfl⟩, fun _ => ⟨rfl, rfl, rfl, Nat.le_refl _, fun _ _ => rfl⟩⟩
  case os =>
    refine ⟨?_, ?_, ?_, ?_, ?_, ?_, ?_, ?_, ?_, ?_, trivial⟩
    · exact ⟨rfl, fun _ ρ X9 d hg ho hc hf hr => Runs.val _ (op_move (show ρ (.tmp 0) = .pointer (some ⟨A, 0, none⟩) from ho 0 rfl)) ⟨hg, Below.refl _ _, rfl⟩, fun e => absurd e (by decide)⟩
    · exact ⟨rfl, fun _ ρ X9 d hg ho hc hf hr => Runs.val _ (op_move (show ρ (.tmp 0) = .pointer (some ⟨A, 0, none⟩) from ho 0 rfl)) ⟨hg, Below.refl _ _, rfl⟩, fun e => absurd e (by decide)⟩
    · exact ⟨rfl, fun _ ρ X9 d hg ho hc hf hr => Runs.val _ (op_nil (show ρ (.tmp 5) = .pointer (some ⟨A, 0, none⟩) from hr 1 5 rfl rfl)) ⟨hg, Below.refl _ _, rfl⟩, fun e => absurd e (by decide)⟩
    · exact ⟨rfl, fun _ ρ X9 d hg ho hc hf hr => Runs.val _ (op_f92_4 (show ρ (.tmp 6) = .pointer (some ⟨A, 0, none⟩) from hr 2 6 rfl rfl)) ⟨hg, Below.refl _ _, rfl⟩, fun e => absurd e (by decide)⟩
    · exact ⟨rfl, fun _ ρ X9 d hg ho hc hf hr => Runs.val _ (op_load33 (show ρ (.tmp 7) = .pointer (some ⟨A, 4, none⟩) from hr 3 7 rfl rfl) (cell_fr hg.1 hnA a4)) ⟨hg, Below.refl _ _, rfl⟩, fun e => absurd e (by decide)⟩
    · exact ⟨rfl, fun _ ρ X9 d hg ho hc hf hr => Runs.val _ (op_load37 (show ρ (.tmp 3) = .pointer (some ⟨Y, 0, none⟩) from ho 3 rfl) (cell_fr hg.1 hnY b0) (cell_fr hg.1 hnY b1) (cell_fr hg.1 hnY b2)) ⟨hg, Below.refl _ _, rfl⟩, fun e => absurd e (by decide)⟩
    · refine ⟨rfl, fun _ ρ X9 d hg ho hc hf hr => ?_, fun e => absurd e (by decide)⟩
      have hb7 : Below X9.heap.size X9 (X9.alloc (.cells #[.int .i64 t.1, .int .i64 t.2.1, .int .i64 t.2.2] 37)) := (Below.refl _ X9).alloc (Nat.le_refl _) _
      exact Runs.val _ (op_s33 (show ρ (.tmp 9) = tdV t from hr 5 9 rfl rfl)) ⟨⟨hg.1.below hb7, fun z => (hg.2 z).trans (hb7.mono (hg.2 z).size)⟩, hb7, X9.heap.size, rfl, hg.1.size, heap_alloc_new X9 _⟩
    · refine ⟨rfl, fun e => absurd rfl e, fun _ ρ X9 hg ho hc hf hr => ?_⟩
      obtain ⟨Z1, e, z1, z2⟩ : ∃ Z1, (ρ (.tmp 10)) = lv1 Z1 ∧ W.heap.size ≤ Z1 ∧ X9.heap[Z1]? = some (.cells #[.int .i64 t.1, .int .i64 t.2.1, .int .i64 t.2.2] 37 (0, 0)) := hr 6 10 rfl rfl
      have hbX := hg.2 rfl
      obtain ⟨ad9, cap9, w9, hrun, o9, g9, t9⟩ := run_td (m := 1) (c := 1) (news := tdL t) (own_below HRW.out hbX) (Nat.zero_le _) (.inr ⟨⟨Z1, 0, none⟩, rfl, rfl, fun j u hu => by
        rw [add_at, Nat.zero_add, cell_blk z2]
        simpa using hu⟩) (fun u hu => by simp at hu; rcases hu with rfl | rfl | rfl <;> rfl) (by omega)
      have f9 : Fr X9 w9 (fun j => (Value.slice rad s.over.length rcap).ownBlock = some j) := Fr.grown (Fr.refl X9 _) g9 (fun j hj => .inl hj)
      exact Runs.val _ (op_appendT (show ρ (.tmp 8) = (.slice rad s.over.length rcap) from hr 4 8 rfl rfl) e hrun) ⟨⟨hg.1.trans f9, fun z => by cases z⟩, f9, ad9, cap9, rfl, by rw [List.flatMap_append, List.flatMap_singleton]; exact o9, fun j e => (by
        rcases t9 with t9 | t9
        · rw [t9] at e; exact .inl e
        · rw [t9] at e; cases e; exact .inr hbX.size), hg.1.trans f9⟩
    · exact ⟨rfl, fun _ ρ X9 d hg ho hc hf hr => Runs.val _ (op_nil (show ρ (.tmp 4) = .pointer (some ⟨A, 0, none⟩) from hr 0 4 rfl rfl)) ⟨hg, Below.refl _ _, rfl⟩, fun e => absurd e (by decide)⟩
    · exact ⟨rfl, fun _ ρ X9 d hg ho hc hf hr => Runs.val _ (op_f92_4 (show ρ (.tmp 12) = .pointer (some ⟨A, 0, none⟩) from hr 8 12 rfl rfl)) ⟨hg, Below.refl _ _, rfl⟩, fun e => absurd e (by decide)⟩
  case la =>
    refine ⟨rfl, fun ρ X9 hg ho hc hf hr => ?_⟩
    obtain ⟨ad9, cap9, e, o1, o2, o3⟩ : ∃ ad9 cap9, (ρ (.tmp 11)) = .slice ad9 (s.over.length + 1) cap9 ∧ X9.ownsRow 0 37 3 (ρ (.tmp 11)) (s.over.length + 1) ((s.over ++ [t]).flatMap tdL) ∧ (∀ j, ((ρ (.tmp 11))).ownBlock = some j → (Value.slice rad s.over.length rcap).ownBlock = some j ∨ W.heap.size ≤ j) ∧ Fr W X9 (fun j => (Value.slice rad s.over.length rcap).ownBlock = some j) := hr 7 11 (by decide) rfl
    rw [e] at o1 o2
    have hA9 := (o3.block A (blk_lt HX.out.ob) hnA).trans HX.out.ob
    exact Runs.skips (op_store33 (show ρ (.tmp 13) = .pointer (some ⟨A, 4, none⟩) from hr 9 13 (by decide) rfl) e (cell_blk hA9 4) (frozen_blk hA9 4)) ⟨ad9, cap9, X9, rfl, o1, o2, o3⟩
  case en =>
    intro a X9 Xb v9 hF hs hd ho hv9 hr
    obtain ⟨x, hx, hxt⟩ := act_put hs hd ho
    change a = putAll _ x [4, 5, 6, 7, 8, 9, 10, 11, 12, 13] at hx
    simp only [putAll, Act.put, List.setIfInBounds_toArray, List.set_cons_zero, List.set_cons_succ] at hx
    obtain ⟨ad9, cap9, X8, rfl, o1, o2, o3⟩ := hF
    have hA8 := (o3.block A (blk_lt HX.out.ob) hnA).trans HX.out.ob
    obtain ⟨V, hV⟩ : ∃ V, V = X8.setCell ⟨A, 4, none⟩ (.slice ad9 (s.over.length + 1) cap9) := ⟨_, rfl⟩
    have fA : Fr X8 V (fun j => j = A) := by rw [hV]; exact Fr.set (a := ⟨A, 4, none⟩) (Fr.refl X8 (fun j => j = A)) (Or.inl rfl) _
    have obV : V.heap[A]? = some (.cells #[.pointer (some ⟨P, 0, none⟩), lv, rv, .map (some M), .slice ad9 (s.over.length + 1) cap9, .map (some N), .int .i64 s.high] 92 (0, 0)) := by rw [hV]; exact set_blk (i := 4) hA8 _
    have oV : V.ownsRow 0 37 3 (.slice ad9 (s.over.length + 1) cap9) (s.over.length + 1) ((s.over ++ [t]).flatMap tdL) := row_keep o1 fA (fun j hj e => by
      obtain ⟨cs, t⟩ := own_tag o1 j hj
      have e' : j = A := e
      subst e'
      exact tag_ne t hA8 (by decide) rfl)
    have fV : Fr W V (fun j => j = A ∨ (Value.slice rad s.over.length rcap).ownBlock = some j) := (o3.mono fun j q => .inr q).trans (fA.mono fun j q => .inl q)
    have jYV : V.heap[Y]? = some (.cells #[.int .i64 t.1, .int .i64 t.2.1, .int .i64 t.2.2] 37 (0, 0)) := (fV.block Y (blk_lt HJY.out) (fun e => by
      rcases e with e | e
      · have q1 := HH.out.lt A HH.out.cA
        have q2 := HY.out
        omega
      · exact hnY e)).trans HJY.out
    have mapW := HX.out.en
    have mapV : Mt V N s.over.length (fun x => if x ∈ s.over then some (.agg #[]) else none) := mapW.like (fV.block N mapW.lt (fun e => by
      obtain ⟨es, cl, hM⟩ := mapW.isMap
      rcases e with e | e
      · rw [e, HX.out.ob] at hM
        cases hM
      · obtain ⟨cs, t⟩ := own_tag HRW.out N e
        rw [hM] at t
        cases t))
    have n0 : V.cell? ⟨Y, 0, none⟩ = some (.int .i64 t.1) := cell_blk jYV 0
    have n1 : V.cell? ⟨Y, 1, none⟩ = some (.int .i64 t.2.1) := cell_blk jYV 1
    have n2 : V.cell? ⟨Y, 2, none⟩ = some (.int .i64 t.2.2) := cell_blk jYV 2
    have am : V.cell? ⟨A, 5, none⟩ = some (.map (some N)) := cell_blk obV 5
    have HOV := Lib.hid oV
    have HOBV := Lib.hid obV
    have HFV := Lib.hid fV
    have HMV := Lib.hid mapV
    have HO2 := Lib.hid o2
    have HV := Lib.hid hV
    clear hs hd ho hr hv9 hxt o1 o2 o3 hA8 fA oV fV obV mapV mapW jYV hV
    subst hx
    rw [← HV.out]
    go_upto_region 2 with fail
    refine wp_region_last (fun X9 => Below V.heap.size V X9) (fun _ _ => True) [
      fun v9 _ => v9 = .pointer (some ⟨A, 0, none⟩),
      fun v9 _ => v9 = .pointer (some ⟨A, 0, none⟩),
      fun v9 _ => v9 = .pointer (some ⟨A, 5, none⟩),
      fun v9 _ => v9 = .map (some N),
      fun v9 _ => v9 = tdV t,
      fun v9 _ => v9 = .agg #[]]
      (fun _ X8 => Mt X8 N (s.over.length + 1) (fun x => if x = t then some (.agg #[]) else if x ∈ s.over then some (.agg #[]) else none) ∧ Fr V X8 (fun j => j = N)) rfl (by kernel_rfl) (by kernel_rfl) (by kernel_rfl) (by kernel_rfl) ?st ?g0 ?os ?la ?en
    case st => exact ⟨fun _ _ _ _ h => h, fun _ _ _ _ h => h, fun _ _ _ _ h => h, fun _ _ _ _ h => h, fun _ _ _ _ h => h, fun _ _ _ _ h => h, trivial⟩
    case g0 => exact ⟨rfl, rfl, rfl, Nat.le_refl _, fun _ _ => rfl⟩
    case os =>
      refine ⟨?_, ?_, ?_, ?_, ?_, ?_, trivial⟩
      · exact ⟨rfl, fun ρ X9 hg ho hc hf hr => Runs.val _ (op_move (show ρ (.tmp 0) = .pointer (some ⟨A, 0, none⟩) from ho 0 rfl)) ⟨hg, trivial, rfl⟩⟩
      · exact ⟨rfl, fun ρ X9 hg ho hc hf hr => Runs.val _ (op_nil (show ρ (.tmp 14) = .pointer (some ⟨A, 0, none⟩) from hr 0 14 rfl rfl)) ⟨hg, trivial, rfl⟩⟩
      · exact ⟨rfl, fun ρ X9 hg ho hc hf hr => Runs.val _ (op_f92_5 (show ρ (.tmp 15) = .pointer (some ⟨A, 0, none⟩) from hr 1 15 rfl rfl)) ⟨hg, trivial, rfl⟩⟩
      · exact ⟨rfl, fun ρ X9 hg ho hc hf hr => Runs.val _ (op_load90 (show ρ (.tmp 16) = .pointer (some ⟨A, 5, none⟩) from hr 2 16 rfl rfl) (cell_on hg am)) ⟨hg, trivial, rfl⟩⟩
      · exact ⟨rfl, fun ρ X9 hg ho hc hf hr => Runs.val _ (op_load37 (show ρ (.tmp 3) = .pointer (some ⟨Y, 0, none⟩) from ho 3 rfl) (cell_on hg n0) (cell_on hg n1) (cell_on hg n2)) ⟨hg, trivial, rfl⟩⟩
      · exact ⟨rfl, fun ρ X9 hg ho hc hf hr => Runs.val _ (op_b154) ⟨hg, trivial, rfl⟩⟩
    case la =>
      refine ⟨rfl, fun ρ X9 hg ho hc hf hr => ?_⟩
      obtain ⟨X8, hrun, hm8, hg8⟩ := (HMV.out.on hg).put Try.underlying90 (by unfold maxLen; omega) ht (.agg #[])
      exact Runs.skips (op_mapUpdate (show ρ (.tmp 17) = .map (some N) from hr 3 17 (by decide) rfl) (show ρ (.tmp 18) = tdV t from hr 4 18 (by decide) rfl) (show ρ (.tmp 19) = .agg #[] from hr 5 19 (by decide) rfl) hrun) ⟨hm8, Fr.grown ((Fr.refl V _).below hg) hg8 (fun k hk => .inl (by cases hk; rfl))⟩
    case en =>
      intro a X9 Xb v9 hF hs hd ho hv9 hr
      obtain ⟨x, hx, hxt⟩ := act_put hs hd ho
      change a = putAll _ x [14, 15, 16, 17, 18, 19] at hx
      simp only [putAll, Act.put, List.setIfInBounds_toArray, List.set_cons_zero, List.set_cons_succ] at hx
      obtain ⟨m1, f1⟩ := hF
      have HA : Hid (Step w A S { s with over := s.over ++ [t] } X9) := by
        have hT0 : ¬ (fun j => j = N) A := fun e => by
          have e' : A = N := e
          obtain ⟨es, cl, hM⟩ := HMV.out.isMap
          rw [← e', HOBV.out] at hM
          cases hM
        have ob9 := (f1.block A (blk_lt HOBV.out) hT0).trans HOBV.out
        have o9 := row_keep HOV.out f1 (fun j hj e => by
          have e' : j = N := e
          subst e'
          obtain ⟨cs, t⟩ := own_tag HOV.out j hj
          obtain ⟨es, cl, hM⟩ := HMV.out.isMap
          rw [hM] at t
          cases t)
        have f9 : Fr w X9 (Three A ov N) := by
          rw [HER.out]
          have e1 : Fr W X9 (Three A (.slice rad s.over.length rcap) N) := (HFV.out.mono fun j q => by rcases q with q | q; exact .inl q; exact .inr (.inl q)).trans (f1.mono fun j q => .inr (.inr q))
          exact ⟨e1.os.trans HB.out.os, e1.tape.trans HB.out.tape, e1.output.trans HB.out.output, Nat.le_trans HB.out.size e1.size, fun k hk hn => (e1.block k (Nat.lt_of_lt_of_le hk HB.out.size) hn).trans (HB.out.block k hk)⟩
        obtain ⟨k1, k2⟩ := HH.out.ends f9 ob9 o9 (fun j hj => by
          rcases HO2.out j hj with q | q
          · rw [HER.out]; exact .inl q
          · exact .inr (Nat.le_trans HB.out.size q)) m1 hfew
        exact Step.mk HSS.out k1 k2
      clear hs hd ho hr hv9 hxt m1 f1
      subst hx
      go_wp2
      refine bodyPost_end (results_none rfl _ _ _) rfl ?_
      exact ⟨rfl, HA.out⟩
end
end Go.Proofs.Ytcoaahlakkghhaa
