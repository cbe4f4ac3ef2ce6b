/- append at each kind of row; single operations; the walk of slices.Clone at versions. -/
import Derived.Test.YtcoaahlakkghhaaGb
import Derived.Test.YtcoaahlakkghhaaGa
namespace Go.Proofs.Ytcoaahlakkghhaa
open Go.RowKit

theorem info_parts {e : TypeId} {z : Option Value} {s b : Nat} (h : (Try.prog.info? e).map (fun i => (i.zero, i.size, i.bytes)) = some (z, s, b)) : ∃ i, Try.prog.info? e = some i ∧ i.zero = z ∧ i.size = s ∧ i.bytes = b := by
  cases hq : Try.prog.info? e with
  | none => rw [hq] at h; cases h
  | some i =>
    rw [hq] at h
    simp only [Option.map_some, Option.some.injEq, Prod.mk.injEq] at h
    exact ⟨i, rfl, h.1, h.2.1, h.2.2⟩
theorem info_ve : (Try.prog.info? 125).map (fun i => (i.zero, i.size, i.bytes)) = some (some (.agg #[.int .i64 0, .string ⟨#[]⟩, .bool false]), 3, 32) := by kernel_rfl
theorem info_hi : (Try.prog.info? 80).map (fun i => (i.zero, i.size, i.bytes)) = some (some (.agg #[.string ⟨#[]⟩, .int .i64 0, .string ⟨#[]⟩]), 3, 40) := by kernel_rfl
theorem info_rw : (Try.prog.info? 129).map (fun i => (i.zero, i.size, i.bytes)) = some (some (.agg #[.string ⟨#[]⟩, .slice none 0 0]), 2, 40) := by kernel_rfl
theorem info_pt : (Try.prog.info? 126).map (fun i => (i.zero, i.size, i.bytes)) = some (some (.pointer none), 1, 8) := by kernel_rfl
theorem info_st : (Try.prog.info? 9).map (fun i => (i.zero, i.size, i.bytes)) = some (some (.string ⟨#[]⟩), 1, 16) := by kernel_rfl
theorem info_on : (Try.prog.info? 144).map (fun i => (i.zero, i.size, i.bytes)) = some (some (.agg #[.string ⟨#[]⟩, .int .i64 0, .string ⟨#[]⟩, .bool false]), 4, 48) := by kernel_rfl
section
variable {w w' : World} {v : Value}
theorem run_ve {base n m c : Nat} {xs news : List Value} {ad : Option Addr} (ho : w.ownsRow base 125 3 v n xs) (hb : base ≤ w.heap.size) (hs : (ad = none ∧ m = 0 ∧ c = 0 ∧ news = []) ∨ ∃ a, ad = some a ∧ news.length = m * 3 ∧ (∀ j u, news[j]? = some u → w.cell? (a.add j) = some u))
    (h1 : ∀ u ∈ news, u.oneCell' = true) (hnm : (n + m) * 32 ≤ 140737488355328) : ∃ ad' cap' w', (Builtin.append_ #[127, 127] 127 #[v, .slice ad m c]).run Try.prog w = .ok (.slice ad' (n + m) cap') w' ∧ w'.ownsRow base 125 3 (.slice ad' (n + m) cap') (n + m) (xs ++ news) ∧ w.grownBy w' v.ownBlock ∧ ((Value.slice ad' (n + m) cap').ownBlock = v.ownBlock ∨ (Value.slice ad' (n + m) cap').ownBlock = some w.heap.size) := by
  obtain ⟨i0, hi, hz0, hz1, hz2⟩ := info_parts info_ve
  rcases hs with ⟨rfl, rfl, rfl, rfl⟩ | ⟨a, rfl, hl, hc⟩
  · obtain ⟨ad', cap', rfl⟩ := own_shape ho
    refine ⟨ad', cap', w, ?_, by simpa using ho, ⟨rfl, rfl, rfl, Nat.le_refl _, fun _ _ _ => rfl⟩, .inl rfl⟩
    exact run_append_owned_none (P := Try.prog) (w := w) base 127 127 125 i0 3 Try.underlying127 hi _ n xs ho
  · obtain ⟨v', w', hr, ho', hg, _, hat⟩ := run_append_own_at (P := Try.prog) (w := w) base 127 127 125 i0 _ 3 32 Try.underlying127 hi hz0 hz1 hz2 rfl (by decide) v n xs ho a m c news hl hc h1 (by unfold maxLen; omega) hnm hb
    obtain ⟨ad', cap', rfl⟩ := own_shape ho'
    exact ⟨ad', cap', w', hr, ho', hg, hat⟩
theorem run_hi {base n m c : Nat} {xs news : List Value} {ad : Option Addr} (ho : w.ownsRow base 80 3 v n xs) (hb : base ≤ w.heap.size) (hs : (ad = none ∧ m = 0 ∧ c = 0 ∧ news = []) ∨ ∃ a, ad = some a ∧ news.length = m * 3 ∧ (∀ j u, news[j]? = some u → w.cell? (a.add j) = some u))
    (h1 : ∀ u ∈ news, u.oneCell' = true) (hnm : (n + m) * 40 ≤ 140737488355328) : ∃ ad' cap' w', (Builtin.append_ #[77, 77] 77 #[v, .slice ad m c]).run Try.prog w = .ok (.slice ad' (n + m) cap') w' ∧ w'.ownsRow base 80 3 (.slice ad' (n + m) cap') (n + m) (xs ++ news) ∧ w.grownBy w' v.ownBlock ∧ ((Value.slice ad' (n + m) cap').ownBlock = v.ownBlock ∨ (Value.slice ad' (n + m) cap').ownBlock = some w.heap.size) := by
  obtain ⟨i0, hi, hz0, hz1, hz2⟩ := info_parts info_hi
  rcases hs with ⟨rfl, rfl, rfl, rfl⟩ | ⟨a, rfl, hl, hc⟩
  · obtain ⟨ad', cap', rfl⟩ := own_shape ho
    refine ⟨ad', cap', w, ?_, by simpa using ho, ⟨rfl, rfl, rfl, Nat.le_refl _, fun _ _ _ => rfl⟩, .inl rfl⟩
    exact run_append_owned_none (P := Try.prog) (w := w) base 77 77 80 i0 3 Try.underlying77 hi _ n xs ho
  · obtain ⟨v', w', hr, ho', hg, _, hat⟩ := run_append_own_at (P := Try.prog) (w := w) base 77 77 80 i0 _ 3 40 Try.underlying77 hi hz0 hz1 hz2 rfl (by decide) v n xs ho a m c news hl hc h1 (by unfold maxLen; omega) hnm hb
    obtain ⟨ad', cap', rfl⟩ := own_shape ho'
    exact ⟨ad', cap', w', hr, ho', hg, hat⟩
theorem run_rw {base n m c : Nat} {xs news : List Value} {ad : Option Addr} (ho : w.ownsRow base 129 2 v n xs) (hb : base ≤ w.heap.size) (hs : (ad = none ∧ m = 0 ∧ c = 0 ∧ news = []) ∨ ∃ a, ad = some a ∧ news.length = m * 2 ∧ (∀ j u, news[j]? = some u → w.cell? (a.add j) = some u))
    (h1 : ∀ u ∈ news, u.oneCell' = true) (hnm : (n + m) * 40 ≤ 140737488355328) : ∃ ad' cap' w', (Builtin.append_ #[61, 61] 61 #[v, .slice ad m c]).run Try.prog w = .ok (.slice ad' (n + m) cap') w' ∧ w'.ownsRow base 129 2 (.slice ad' (n + m) cap') (n + m) (xs ++ news) ∧ w.grownBy w' v.ownBlock ∧ ((Value.slice ad' (n + m) cap').ownBlock = v.ownBlock ∨ (Value.slice ad' (n + m) cap').ownBlock = some w.heap.size) := by
  obtain ⟨i0, hi, hz0, hz1, hz2⟩ := info_parts info_rw
  rcases hs with ⟨rfl, rfl, rfl, rfl⟩ | ⟨a, rfl, hl, hc⟩
  · obtain ⟨ad', cap', rfl⟩ := own_shape ho
    refine ⟨ad', cap', w, ?_, by simpa using ho, ⟨rfl, rfl, rfl, Nat.le_refl _, fun _ _ _ => rfl⟩, .inl rfl⟩
    exact run_append_owned_none (P := Try.prog) (w := w) base 61 61 129 i0 2 Try.underlying61 hi _ n xs ho
  · obtain ⟨v', w', hr, ho', hg, _, hat⟩ := run_append_own_at (P := Try.prog) (w := w) base 61 61 129 i0 _ 2 40 Try.underlying61 hi hz0 hz1 hz2 rfl (by decide) v n xs ho a m c news hl hc h1 (by unfold maxLen; omega) hnm hb
    obtain ⟨ad', cap', rfl⟩ := own_shape ho'
    exact ⟨ad', cap', w', hr, ho', hg, hat⟩
theorem run_pt {base n m c : Nat} {xs news : List Value} {ad : Option Addr} (ho : w.ownsRow base 126 1 v n xs) (hb : base ≤ w.heap.size) (hs : (ad = none ∧ m = 0 ∧ c = 0 ∧ news = []) ∨ ∃ a, ad = some a ∧ news.length = m * 1 ∧ (∀ j u, news[j]? = some u → w.cell? (a.add j) = some u))
    (h1 : ∀ u ∈ news, u.oneCell' = true) (hnm : (n + m) * 8 ≤ 140737488355328) : ∃ ad' cap' w', (Builtin.append_ #[114, 114] 114 #[v, .slice ad m c]).run Try.prog w = .ok (.slice ad' (n + m) cap') w' ∧ w'.ownsRow base 126 1 (.slice ad' (n + m) cap') (n + m) (xs ++ news) ∧ w.grownBy w' v.ownBlock ∧ ((Value.slice ad' (n + m) cap').ownBlock = v.ownBlock ∨ (Value.slice ad' (n + m) cap').ownBlock = some w.heap.size) := by
  obtain ⟨i0, hi, hz0, hz1, hz2⟩ := info_parts info_pt
  rcases hs with ⟨rfl, rfl, rfl, rfl⟩ | ⟨a, rfl, hl, hc⟩
  · obtain ⟨ad', cap', rfl⟩ := own_shape ho
    refine ⟨ad', cap', w, ?_, by simpa using ho, ⟨rfl, rfl, rfl, Nat.le_refl _, fun _ _ _ => rfl⟩, .inl rfl⟩
    exact run_append_owned_none (P := Try.prog) (w := w) base 114 114 126 i0 1 Try.underlying114 hi _ n xs ho
  · obtain ⟨v', w', hr, ho', hg, _, hat⟩ := run_append_own_at (P := Try.prog) (w := w) base 114 114 126 i0 _ 1 8 Try.underlying114 hi hz0 hz1 hz2 rfl (by decide) v n xs ho a m c news hl hc h1 (by unfold maxLen; omega) hnm hb
    obtain ⟨ad', cap', rfl⟩ := own_shape ho'
    exact ⟨ad', cap', w', hr, ho', hg, hat⟩
theorem run_st {base n m c : Nat} {xs news : List Value} {ad : Option Addr} (ho : w.ownsRow base 9 1 v n xs) (hb : base ≤ w.heap.size) (hs : (ad = none ∧ m = 0 ∧ c = 0 ∧ news = []) ∨ ∃ a, ad = some a ∧ news.length = m * 1 ∧ (∀ j u, news[j]? = some u → w.cell? (a.add j) = some u))
    (h1 : ∀ u ∈ news, u.oneCell' = true) (hnm : (n + m) * 16 ≤ 140737488355328) : ∃ ad' cap' w', (Builtin.append_ #[141, 141] 141 #[v, .slice ad m c]).run Try.prog w = .ok (.slice ad' (n + m) cap') w' ∧ w'.ownsRow base 9 1 (.slice ad' (n + m) cap') (n + m) (xs ++ news) ∧ w.grownBy w' v.ownBlock ∧ ((Value.slice ad' (n + m) cap').ownBlock = v.ownBlock ∨ (Value.slice ad' (n + m) cap').ownBlock = some w.heap.size) := by
  obtain ⟨i0, hi, hz0, hz1, hz2⟩ := info_parts info_st
  rcases hs with ⟨rfl, rfl, rfl, rfl⟩ | ⟨a, rfl, hl, hc⟩
  · obtain ⟨ad', cap', rfl⟩ := own_shape ho
    refine ⟨ad', cap', w, ?_, by simpa using ho, ⟨rfl, rfl, rfl, Nat.le_refl _, fun _ _ _ => rfl⟩, .inl rfl⟩
    exact run_append_owned_none (P := Try.prog) (w := w) base 141 141 9 i0 1 Try.underlying141 hi _ n xs ho
  · obtain ⟨v', w', hr, ho', hg, _, hat⟩ := run_append_own_at (P := Try.prog) (w := w) base 141 141 9 i0 _ 1 16 Try.underlying141 hi hz0 hz1 hz2 rfl (by decide) v n xs ho a m c news hl hc h1 (by unfold maxLen; omega) hnm hb
    obtain ⟨ad', cap', rfl⟩ := own_shape ho'
    exact ⟨ad', cap', w', hr, ho', hg, hat⟩
theorem run_on {base n m c : Nat} {xs news : List Value} {ad : Option Addr} (ho : w.ownsRow base 144 4 v n xs) (hb : base ≤ w.heap.size) (hs : (ad = none ∧ m = 0 ∧ c = 0 ∧ news = []) ∨ ∃ a, ad = some a ∧ news.length = m * 4 ∧ (∀ j u, news[j]? = some u → w.cell? (a.add j) = some u))
    (h1 : ∀ u ∈ news, u.oneCell' = true) (hnm : (n + m) * 48 ≤ 140737488355328) : ∃ ad' cap' w', (Builtin.append_ #[28, 28] 28 #[v, .slice ad m c]).run Try.prog w = .ok (.slice ad' (n + m) cap') w' ∧ w'.ownsRow base 144 4 (.slice ad' (n + m) cap') (n + m) (xs ++ news) ∧ w.grownBy w' v.ownBlock ∧ ((Value.slice ad' (n + m) cap').ownBlock = v.ownBlock ∨ (Value.slice ad' (n + m) cap').ownBlock = some w.heap.size) := by
  obtain ⟨i0, hi, hz0, hz1, hz2⟩ := info_parts info_on
  rcases hs with ⟨rfl, rfl, rfl, rfl⟩ | ⟨a, rfl, hl, hc⟩
  · obtain ⟨ad', cap', rfl⟩ := own_shape ho
    refine ⟨ad', cap', w, ?_, by simpa using ho, ⟨rfl, rfl, rfl, Nat.le_refl _, fun _ _ _ => rfl⟩, .inl rfl⟩
    exact run_append_owned_none (P := Try.prog) (w := w) base 28 28 144 i0 4 Try.underlying28 hi _ n xs ho
  · obtain ⟨v', w', hr, ho', hg, _, hat⟩ := run_append_own_at (P := Try.prog) (w := w) base 28 28 144 i0 _ 4 48 Try.underlying28 hi hz0 hz1 hz2 rfl (by decide) v n xs ho a m c news hl hc h1 (by unfold maxLen; omega) hnm hb
    obtain ⟨ad', cap', rfl⟩ := own_shape ho'
    exact ⟨ad', cap', w', hr, ho', hg, hat⟩
end
section
variable {ρ : Operand → Value} {X : World} {d : Option Tmp} {ty : TypeId} {ps : String} {af : Array Edge} {g : Option (Nat × Bool)}
theorem op_move {x : Operand} {v : Value} (e : ρ x = v) : (execOp ρ ⟨d, .move x, ty, ps, af, g⟩).run Try.prog X = .ok (.value v) X := by
  simp only [execOp, e]
  rfl
theorem op_assign {x : Operand} {v : Value} (e : ρ x = v) : (execOp ρ ⟨d, .assign x, ty, ps, af, g⟩).run Try.prog X = .ok (.value v) X := by
  simp only [execOp, e]
  rfl
theorem op_nil {x : Operand} {a : Addr} (e : ρ x = .pointer (some a)) : (execOp ρ ⟨d, .nilCheck x, ty, ps, af, g⟩).run Try.prog X = .ok (.value (.pointer (some a))) X := by
  simp only [execOp, e]
  rfl
theorem op_load3 {x : Operand} {B i : Nat} {n : Int} (e : ρ x = .pointer (some ⟨B, i, none⟩)) (y : X.cell? ⟨B, i, none⟩ = some (.int .i64 n)) : (execOp ρ ⟨d, .load 3 x, ty, ps, af, g⟩).run Try.prog X = .ok (.value (.int .i64 n)) X := by
  simp only [execOp, e]
  go_simp
theorem op_load9 {x : Operand} {B i : Nat} {n : ByteArray} (e : ρ x = .pointer (some ⟨B, i, none⟩)) (y : X.cell? ⟨B, i, none⟩ = some (.string n)) : (execOp ρ ⟨d, .load 9 x, ty, ps, af, g⟩).run Try.prog X = .ok (.value (.string n)) X := by
  simp only [execOp, e]
  go_simp
theorem op_load126 {x : Operand} {B i : Nat} {n : Option Addr} (e : ρ x = .pointer (some ⟨B, i, none⟩)) (y : X.cell? ⟨B, i, none⟩ = some (.pointer n)) : (execOp ρ ⟨d, .load 126 x, ty, ps, af, g⟩).run Try.prog X = .ok (.value (.pointer n)) X := by
  simp only [execOp, e]
  go_simp
theorem op_load127 {x : Operand} {B i : Nat} {a : Option Addr} {n m : Nat} (e : ρ x = .pointer (some ⟨B, i, none⟩)) (y : X.cell? ⟨B, i, none⟩ = some (.slice a n m)) : (execOp ρ ⟨d, .load 127 x, ty, ps, af, g⟩).run Try.prog X = .ok (.value (.slice a n m)) X := by
  simp only [execOp, e]
  go_simp
theorem op_load114 {x : Operand} {B i : Nat} {a : Option Addr} {n m : Nat} (e : ρ x = .pointer (some ⟨B, i, none⟩)) (y : X.cell? ⟨B, i, none⟩ = some (.slice a n m)) : (execOp ρ ⟨d, .load 114 x, ty, ps, af, g⟩).run Try.prog X = .ok (.value (.slice a n m)) X := by
  simp only [execOp, e]
  go_simp
theorem op_load61 {x : Operand} {B i : Nat} {a : Option Addr} {n m : Nat} (e : ρ x = .pointer (some ⟨B, i, none⟩)) (y : X.cell? ⟨B, i, none⟩ = some (.slice a n m)) : (execOp ρ ⟨d, .load 61 x, ty, ps, af, g⟩).run Try.prog X = .ok (.value (.slice a n m)) X := by
  simp only [execOp, e]
  go_simp
theorem op_load77 {x : Operand} {B i : Nat} {a : Option Addr} {n m : Nat} (e : ρ x = .pointer (some ⟨B, i, none⟩)) (y : X.cell? ⟨B, i, none⟩ = some (.slice a n m)) : (execOp ρ ⟨d, .load 77 x, ty, ps, af, g⟩).run Try.prog X = .ok (.value (.slice a n m)) X := by
  simp only [execOp, e]
  go_simp
theorem op_load28 {x : Operand} {B i : Nat} {a : Option Addr} {n m : Nat} (e : ρ x = .pointer (some ⟨B, i, none⟩)) (y : X.cell? ⟨B, i, none⟩ = some (.slice a n m)) : (execOp ρ ⟨d, .load 28 x, ty, ps, af, g⟩).run Try.prog X = .ok (.value (.slice a n m)) X := by
  simp only [execOp, e]
  go_simp
theorem op_load141 {x : Operand} {B i : Nat} {a : Option Addr} {n m : Nat} (e : ρ x = .pointer (some ⟨B, i, none⟩)) (y : X.cell? ⟨B, i, none⟩ = some (.slice a n m)) : (execOp ρ ⟨d, .load 141 x, ty, ps, af, g⟩).run Try.prog X = .ok (.value (.slice a n m)) X := by
  simp only [execOp, e]
  go_simp
theorem op_load125 {x : Operand} {B i : Nat} {t : Int} {s : ByteArray} {q : Bool} (e : ρ x = .pointer (some ⟨B, i, none⟩)) (y0 : X.cell? ⟨B, i, none⟩ = some (.int .i64 t)) (y1 : X.cell? ⟨B, i + 1, none⟩ = some (.string s)) (y2 : X.cell? ⟨B, i + 2, none⟩ = some (.bool q)) : (execOp ρ ⟨d, .load 125 x, ty, ps, af, g⟩).run Try.prog X = .ok (.value (.agg #[.int .i64 t, .string s, .bool q])) X := by
  simp only [execOp, e]
  go_simp
theorem op_f116_0 {x : Operand} {B o : Nat} (e : ρ x = .pointer (some ⟨B, o, none⟩)) : (execOp ρ ⟨d, .fieldAddr 116 x 0, ty, ps, af, g⟩).run Try.prog X = .ok (.value (.pointer (some ⟨B, o, none⟩))) X := by
  simp only [execOp, e]
  go_simp
theorem op_f129_0 {x : Operand} {B o : Nat} (e : ρ x = .pointer (some ⟨B, o, none⟩)) : (execOp ρ ⟨d, .fieldAddr 129 x 0, ty, ps, af, g⟩).run Try.prog X = .ok (.value (.pointer (some ⟨B, o, none⟩))) X := by
  simp only [execOp, e]
  go_simp
theorem op_f129_1 {x : Operand} {B o : Nat} (e : ρ x = .pointer (some ⟨B, o, none⟩)) : (execOp ρ ⟨d, .fieldAddr 129 x 1, ty, ps, af, g⟩).run Try.prog X = .ok (.value (.pointer (some ⟨B, o + 1, none⟩))) X := by
  simp only [execOp, e]
  go_simp
theorem op_f125_0 {x : Operand} {B o : Nat} (e : ρ x = .pointer (some ⟨B, o, none⟩)) : (execOp ρ ⟨d, .fieldAddr 125 x 0, ty, ps, af, g⟩).run Try.prog X = .ok (.value (.pointer (some ⟨B, o, none⟩))) X := by
  simp only [execOp, e]
  go_simp
theorem op_f125_1 {x : Operand} {B o : Nat} (e : ρ x = .pointer (some ⟨B, o, none⟩)) : (execOp ρ ⟨d, .fieldAddr 125 x 1, ty, ps, af, g⟩).run Try.prog X = .ok (.value (.pointer (some ⟨B, o + 1, none⟩))) X := by
  simp only [execOp, e]
  go_simp
theorem op_f125_2 {x : Operand} {B o : Nat} (e : ρ x = .pointer (some ⟨B, o, none⟩)) : (execOp ρ ⟨d, .fieldAddr 125 x 2, ty, ps, af, g⟩).run Try.prog X = .ok (.value (.pointer (some ⟨B, o + 2, none⟩))) X := by
  simp only [execOp, e]
  go_simp
theorem op_f30_0 {x : Operand} {B o : Nat} (e : ρ x = .pointer (some ⟨B, o, none⟩)) : (execOp ρ ⟨d, .fieldAddr 30 x 0, ty, ps, af, g⟩).run Try.prog X = .ok (.value (.pointer (some ⟨B, o, none⟩))) X := by
  simp only [execOp, e]
  go_simp
theorem op_b129 {x y : Operand} {s : ByteArray} {a : Option Addr} {n m : Nat} (e : ρ x = .string s) (e2 : ρ y = .slice a n m) : (execOp ρ ⟨d, .build 129 #[(0, x), (1, y)], ty, ps, af, g⟩).run Try.prog X = .ok (.value (.agg #[.string s, .slice a n m])) X := by
  simp only [execOp]
  simp [e, e2]
  go_simp
theorem op_b80 {x y z : Operand} {s t : ByteArray} {n : Int} (e : ρ x = .string s) (e2 : ρ y = .int .i64 n) (e3 : ρ z = .string t) : (execOp ρ ⟨d, .build 80 #[(0, x), (1, y), (2, z)], ty, ps, af, g⟩).run Try.prog X = .ok (.value (.agg #[.string s, .int .i64 n, .string t])) X := by
  simp only [execOp]
  simp [e, e2, e3]
  go_simp
theorem op_s61 {x : Operand} {s : ByteArray} {a : Option Addr} {n m : Nat} (e : ρ x = .agg #[.string s, .slice a n m]) : (execOp ρ ⟨d, .buildSlice 61 1 #[(0, x)], ty, ps, af, g⟩).run Try.prog X = .ok (.value (.slice (some ⟨X.heap.size, 0, none⟩) 1 1)) (X.alloc (.cells #[.string s, .slice a n m] 129)) := by
  simp only [execOp]
  simp [e]
  go_simp
theorem op_s77 {x : Operand} {s t : ByteArray} {n : Int} (e : ρ x = .agg #[.string s, .int .i64 n, .string t]) : (execOp ρ ⟨d, .buildSlice 77 1 #[(0, x)], ty, ps, af, g⟩).run Try.prog X = .ok (.value (.slice (some ⟨X.heap.size, 0, none⟩) 1 1)) (X.alloc (.cells #[.string s, .int .i64 n, .string t] 80)) := by
  simp only [execOp]
  simp [e]
  go_simp
theorem op_s127 {x : Operand} {t : Int} {s : ByteArray} {q : Bool} (e : ρ x = .agg #[.int .i64 t, .string s, .bool q]) : (execOp ρ ⟨d, .buildSlice 127 1 #[(0, x)], ty, ps, af, g⟩).run Try.prog X = .ok (.value (.slice (some ⟨X.heap.size, 0, none⟩) 1 1)) (X.alloc (.cells #[.int .i64 t, .string s, .bool q] 125)) := by
  simp only [execOp]
  simp [e]
  go_simp
theorem op_s114 {x : Operand} {a : Option Addr} (e : ρ x = .pointer a) : (execOp ρ ⟨d, .buildSlice 114 1 #[(0, x)], ty, ps, af, g⟩).run Try.prog X = .ok (.value (.slice (some ⟨X.heap.size, 0, none⟩) 1 1)) (X.alloc (.cells #[.pointer a] 126)) := by
  simp only [execOp]
  simp [e]
  go_simp
theorem op_x129 {x : Operand} {s : ByteArray} {a : Option Addr} {n m : Nat} (e : ρ x = .agg #[.string s, .slice a n m]) : (execOp ρ ⟨d, .box 129 x, ty, ps, af, g⟩).run Try.prog X = .ok (.value (.pointer (some ⟨X.heap.size, 0, none⟩))) (X.alloc (.cells #[.string s, .slice a n m] 129)) := by
  simp only [execOp]
  simp [e]
  go_simp
theorem op_append127 {s x : Operand} {v1 v2 v' : Value} {X' : World} (hs : ρ s = v1) (hx : ρ x = v2) (hrun : (Builtin.append_ #[127, 127] 127 #[v1, v2]).run Try.prog X = .ok v' X') : (execOp ρ ⟨d, .call { callee := .builtin .append, args := #[s, x], argTypes := #[127, 127] }, 127, ps, af, g⟩).run Try.prog X = .ok (.value v') X' := by
  simp only [execOp, resolve, invoke, builtin, Sem.run_bind, Sem.run_pure, Result.andThen_ok, List.map_toArray, List.map_cons, List.map_nil, hs, hx, hrun]
theorem op_append77 {s x : Operand} {v1 v2 v' : Value} {X' : World} (hs : ρ s = v1) (hx : ρ x = v2) (hrun : (Builtin.append_ #[77, 77] 77 #[v1, v2]).run Try.prog X = .ok v' X') : (execOp ρ ⟨d, .call { callee := .builtin .append, args := #[s, x], argTypes := #[77, 77] }, 77, ps, af, g⟩).run Try.prog X = .ok (.value v') X' := by
  simp only [execOp, resolve, invoke, builtin, Sem.run_bind, Sem.run_pure, Result.andThen_ok, List.map_toArray, List.map_cons, List.map_nil, hs, hx, hrun]
theorem op_append61 {s x : Operand} {v1 v2 v' : Value} {X' : World} (hs : ρ s = v1) (hx : ρ x = v2) (hrun : (Builtin.append_ #[61, 61] 61 #[v1, v2]).run Try.prog X = .ok v' X') : (execOp ρ ⟨d, .call { callee := .builtin .append, args := #[s, x], argTypes := #[61, 61] }, 61, ps, af, g⟩).run Try.prog X = .ok (.value v') X' := by
  simp only [execOp, resolve, invoke, builtin, Sem.run_bind, Sem.run_pure, Result.andThen_ok, List.map_toArray, List.map_cons, List.map_nil, hs, hx, hrun]
theorem op_append114 {s x : Operand} {v1 v2 v' : Value} {X' : World} (hs : ρ s = v1) (hx : ρ x = v2) (hrun : (Builtin.append_ #[114, 114] 114 #[v1, v2]).run Try.prog X = .ok v' X') : (execOp ρ ⟨d, .call { callee := .builtin .append, args := #[s, x], argTypes := #[114, 114] }, 114, ps, af, g⟩).run Try.prog X = .ok (.value v') X' := by
  simp only [execOp, resolve, invoke, builtin, Sem.run_bind, Sem.run_pure, Result.andThen_ok, List.map_toArray, List.map_cons, List.map_nil, hs, hx, hrun]
theorem op_append141 {s x : Operand} {v1 v2 v' : Value} {X' : World} (hs : ρ s = v1) (hx : ρ x = v2) (hrun : (Builtin.append_ #[141, 141] 141 #[v1, v2]).run Try.prog X = .ok v' X') : (execOp ρ ⟨d, .call { callee := .builtin .append, args := #[s, x], argTypes := #[141, 141] }, 141, ps, af, g⟩).run Try.prog X = .ok (.value v') X' := by
  simp only [execOp, resolve, invoke, builtin, Sem.run_bind, Sem.run_pure, Result.andThen_ok, List.map_toArray, List.map_cons, List.map_nil, hs, hx, hrun]
theorem op_append28 {s x : Operand} {v1 v2 v' : Value} {X' : World} (hs : ρ s = v1) (hx : ρ x = v2) (hrun : (Builtin.append_ #[28, 28] 28 #[v1, v2]).run Try.prog X = .ok v' X') : (execOp ρ ⟨d, .call { callee := .builtin .append, args := #[s, x], argTypes := #[28, 28] }, 28, ps, af, g⟩).run Try.prog X = .ok (.value v') X' := by
  simp only [execOp, resolve, invoke, builtin, Sem.run_bind, Sem.run_pure, Result.andThen_ok, List.map_toArray, List.map_cons, List.map_nil, hs, hx, hrun]
theorem op_store114 {x y : Operand} {B i : Nat} {a : Option Addr} {n m : Nat} {u : Value} (e : ρ x = .pointer (some ⟨B, i, none⟩)) (e2 : ρ y = .slice a n m) (c : X.cell? ⟨B, i, none⟩ = some u) (z : X.frozen? ⟨B, i, none⟩ = false) : (execOp ρ ⟨d, .store 114 x y, ty, ps, af, g⟩).run Try.prog X = .ok .skip (X.setCell ⟨B, i, none⟩ (.slice a n m)) := by
  simp only [execOp, e, e2]
  go_simp
theorem op_store127 {x y : Operand} {B i : Nat} {a : Option Addr} {n m : Nat} {u : Value} (e : ρ x = .pointer (some ⟨B, i, none⟩)) (e2 : ρ y = .slice a n m) (c : X.cell? ⟨B, i, none⟩ = some u) (z : X.frozen? ⟨B, i, none⟩ = false) : (execOp ρ ⟨d, .store 127 x y, ty, ps, af, g⟩).run Try.prog X = .ok .skip (X.setCell ⟨B, i, none⟩ (.slice a n m)) := by
  simp only [execOp, e, e2]
  go_simp
theorem op_store28 {x y : Operand} {B i : Nat} {a : Option Addr} {n m : Nat} {u : Value} (e : ρ x = .pointer (some ⟨B, i, none⟩)) (e2 : ρ y = .slice a n m) (c : X.cell? ⟨B, i, none⟩ = some u) (z : X.frozen? ⟨B, i, none⟩ = false) : (execOp ρ ⟨d, .store 28 x y, ty, ps, af, g⟩).run Try.prog X = .ok .skip (X.setCell ⟨B, i, none⟩ (.slice a n m)) := by
  simp only [execOp, e, e2]
  go_simp
theorem op_call1 {f : FuncId} {x0 : Operand} {v0 : Value} {at' : Array TypeId} (hf : ∀ f, ρ (.func f) = .func (.func f) #[] #[]) (hc : Sem.run Try.prog (callFunc f #[v0]) X = .ok (.enter f #[v0]) X) (e0 : ρ x0 = v0) : (execOp ρ ⟨d, .call { callee := .value (.func f), args := #[x0], argTypes := at' }, ty, ps, af, g⟩).run Try.prog X = .ok (.enter f #[v0]) X := by
  simp only [execOp]
  simp [resolve, hf, e0, Deferred.ofValue, invoke, hc]
theorem op_call3 {f : FuncId} {x0 x1 x2 : Operand} {v0 v1 v2 : Value} {at' : Array TypeId} (hf : ∀ f, ρ (.func f) = .func (.func f) #[] #[]) (hc : Sem.run Try.prog (callFunc f #[v0, v1, v2]) X = .ok (.enter f #[v0, v1, v2]) X) (e0 : ρ x0 = v0) (e1 : ρ x1 = v1) (e2 : ρ x2 = v2) : (execOp ρ ⟨d, .call { callee := .value (.func f), args := #[x0, x1, x2], argTypes := at' }, ty, ps, af, g⟩).run Try.prog X = .ok (.enter f #[v0, v1, v2]) X := by
  simp only [execOp]
  simp [resolve, hf, e0, e1, e2, Deferred.ofValue, invoke, hc]
theorem call61 {v : Value} : Sem.run Try.prog (callFunc 61 #[v]) X = .ok (.enter 61 #[v]) X := by go_simp
theorem call108 {v u x : Value} : Sem.run Try.prog (callFunc 108 #[v, u, x]) X = .ok (.enter 108 #[v, u, x]) X := by go_simp
end
section
variable {w w' W V : World} {A : Nat} {S T : Nat → Prop}
theorem cell_on {X : World} {a : Addr} {u : Value} (h : Below V.heap.size V X) (y : V.cell? a = some u) : X.cell? a = some u := by
  have hl : a.block < V.heap.size := by
    refine Classical.byContradiction fun q => ?_
    unfold World.cell? at y
    rw [Array.getElem?_eq_none (by omega)] at y
    simp at y
  unfold World.cell? at y ⊢
  rw [h.block _ hl]
  exact y
/-- Versions that v leads to, wherever they lie. -/
def Vs (w : World) (l : List Ve) (v : Value) : Prop := ∃ ad cap, v = .slice ad l.length cap ∧ (ad = none → cap = 0) ∧ l.length ≤ cap ∧ cap ≤ maxLen ∧
  ∀ i (h : i < l.length), ∃ b o, ad = some ⟨b, o, none⟩ ∧ b < w.heap.size ∧ w.cell? ⟨b, o + i * 3, none⟩ = some (.int .i64 l[i].ts) ∧ w.cell? ⟨b, o + i * 3 + 1, none⟩ = some (.string l[i].val) ∧ w.cell? ⟨b, o + i * 3 + 2, none⟩ = some (.bool l[i].dead)
theorem Vs.on {l : List Ve} {v : Value} (h : Vs w l v) (hb : Below w.heap.size w w') : Vs w' l v := by
  obtain ⟨ad, cap, e, h0, h1, h2, h3⟩ := h
  refine ⟨ad, cap, e, h0, h1, h2, fun i hi => ?_⟩
  obtain ⟨b, o, ha, hl, c0, c1, c2⟩ := h3 i hi
  exact ⟨b, o, ha, Nat.lt_of_lt_of_le hl hb.size, cell_on hb c0, cell_on hb c1, cell_on hb c2⟩
theorem Vs.own {B : Nat} {l : List Ve} {v : Value} (h : w.ownsRow B 125 3 v l.length (veC l)) : Vs w l v := by
  have h' := own_mono h (Nat.zero_le B)
  rcases h.2 with ⟨hv, h0⟩ | ⟨g, cap, cur, hv, hg, hc, h1, h2, hr⟩
  · exact ⟨none, 0, by rw [hv, h0], fun _ => rfl, by omega, Nat.zero_le _, fun i hi => by omega⟩
  · subst hv
    refine ⟨_, cap, rfl, fun q => (by cases q), h1, h2, fun i hi => ?_⟩
    obtain ⟨g', cap', e, _, _, c0, c1, c2⟩ := ve_cells h' hi
    cases e
    exact ⟨g, 0, rfl, blk_lt hc, by rw [Nat.zero_add]; exact c0, by rw [Nat.zero_add]; exact c1, by rw [Nat.zero_add]; exact c2⟩
theorem veC_cell (L : List Ve) : ∀ (j : Nat) (u : Value), (veC L)[j]? = some u → ∃ (i : Nat) (h : i < L.length), (j = i * 3 ∧ u = .int .i64 L[i].ts) ∨ (j = i * 3 + 1 ∧ u = .string L[i].val) ∨ (j = i * 3 + 2 ∧ u = .bool L[i].dead) := by
  intro j u hu
  have hj : j < L.length * 3 := by
    have := (List.getElem?_eq_some_iff.1 hu).1
    rwa [veC_len] at this
  have hi : j / 3 < L.length := by omega
  obtain ⟨a, b, c⟩ := veC_get L (j / 3) hi
  refine ⟨j / 3, hi, ?_⟩
  have h3 : j = j / 3 * 3 ∨ j = j / 3 * 3 + 1 ∨ j = j / 3 * 3 + 2 := by omega
  rcases h3 with e | e | e
  · rw [← e] at a
    rw [hu] at a
    exact .inl ⟨e, by simpa using a⟩
  · rw [← e] at b
    rw [hu] at b
    exact .inr (.inl ⟨e, by simpa using b⟩)
  · rw [← e] at c
    rw [hu] at c
    exact .inr (.inr ⟨e, by simpa using c⟩)
theorem Vs.src {l : List Ve} {ad : Option Addr} {cap : Nat} (h : Vs w l (.slice ad l.length cap)) : (ad = none ∧ l.length = 0 ∧ cap = 0 ∧ veC l = []) ∨ ∃ a, ad = some a ∧ (veC l).length = l.length * 3 ∧ (∀ j u, (veC l)[j]? = some u → w.cell? (a.add j) = some u) := by
  obtain ⟨ad', cap', e, h0, h1, h2, h3⟩ := h
  cases e
  cases had : ad with
  | none =>
    have hL : l = [] := by
      rcases l with _ | ⟨x, l⟩
      · rfl
      · obtain ⟨b, o, e, _⟩ := h3 0 (by simp)
        rw [had] at e
        cases e
    subst hL
    exact .inl ⟨rfl, rfl, h0 had, rfl⟩
  | some a =>
    refine .inr ⟨a, rfl, veC_len l, fun j u hu => ?_⟩
    obtain ⟨i, hi, h⟩ := veC_cell l j u hu
    obtain ⟨b, o, e, _, c0, c1, c2⟩ := h3 i hi
    rw [had] at e
    cases e
    rw [add_at]
    rcases h with ⟨rfl, rfl⟩ | ⟨rfl, rfl⟩ | ⟨rfl, rfl⟩
    · exact c0
    · exact c1
    · exact c2
theorem own_empty31 (w : World) : (w.alloc (.cells #[] 125)).ownsRow w.heap.size 125 3 (.slice (some ⟨w.heap.size, 0, none⟩) 0 0) 0 [] :=
  ⟨rfl, .inr ⟨w.heap.size, 0, #[], rfl, Nat.le_refl _, heap_alloc_new w _, Nat.le_refl _, Nat.zero_le _, rfl, rfl⟩⟩
theorem wpl_run {P : Program} {w w' : World} {ops : Array Oper} {rest : List Oper} {o : Oper} {a : Act} {Q : Exit → Act → World → Prop} {t u ty : TypeId} {v' : Value} {ds : Option Tmp} {ps : String} {af : Array Edge} (s x : Operand)
    (ho : o = ⟨ds, .call { callee := .builtin .append, args := #[s, x], argTypes := #[t, u] }, ty, ps, af, none⟩) (hrun : (Builtin.append_ #[t, u] ty #[a.eval s, a.eval x]).run P w = .ok v' w')
    (h : wpList P ops Q rest (a.put ds v') w') : wpList P ops Q (o :: rest) a w := by
  subst ho
  refine wpList_plain rfl fun K hK => ?_
  unfold Oper.wp execOp
  simp only [resolve, invoke, builtin, Sem.run_bind, Sem.run_pure, Result.andThen_ok, List.map_toArray, List.map_cons, List.map_nil, hrun]
  exact hK _ _ h
theorem wpl_run2 {P : Program} {w w' : World} {ops : Array Oper} {rest : List Oper} {o : Oper} {a : Act} {Q : Exit → Act → World → Prop} {t u ty : TypeId} {v1 v2 v' : Value} {ds : Option Tmp} {ps : String} {af : Array Edge} (s x : Operand)
    (ho : o = ⟨ds, .call { callee := .builtin .append, args := #[s, x], argTypes := #[t, u] }, ty, ps, af, none⟩) (hs : a.eval s = v1) (hx : a.eval x = v2) (hrun : (Builtin.append_ #[t, u] ty #[v1, v2]).run P w = .ok v' w')
    (h : wpList P ops Q rest (a.put ds v') w') : wpList P ops Q (o :: rest) a w := by
  subst hs
  subst hx
  exact wpl_run s x ho hrun h
set_option maxHeartbeats 1000000 in
set_option maxRecDepth 100000 in
theorem clone_any {l : List Ve} {v : Value} (hl : Vs w l v) (hz : l.length ≤ 900000) : Calls Try.prog 61 #[v] w fun e w' => ∃ ad cap, e = .returned (.slice ad l.length cap) ∧ w'.ownsRow w.heap.size 125 3 (.slice ad l.length cap) l.length (veC l) ∧ Below w.heap.size w w' := by
  have hl' := hl
  obtain ⟨ad, cap, rfl, h0, h1, h2, _⟩ := hl'
  cases ad with
  | none =>
    have e0 : l = [] := by
      rcases hl.src with ⟨_, q, _⟩ | ⟨a, q, _⟩
      · exact List.eq_nil_of_length_eq_zero q
      · cases q
    subst e0
    have hc0 := h0 rfl
    subst hc0
    clear h0 h1 h2 hl
    have hq : ∀ w, (binOp BinOp.eql 127 (.slice none 0 0) (.slice none 0 0)).run Try.prog w = .ok (.bool true) w := fun _ => by kernel_rfl
    go_enter Try.func61, Try.ntmps61
    go_wp2
    refine bodyPost_ret (v := .slice none 0 0) (by simp [results, Try.results61, go_sem]) rfl ?_
    exact ⟨none, 0, rfl, World.ownsRow_nil _ _ _ _, Below.refl _ _⟩
  | some a =>
    have hal : Below w.heap.size w (w.alloc (.cells #[] 125)) := (Below.refl _ w).alloc (Nat.le_refl _) _
    obtain ⟨ad', cap', w', hrun, ho, hg, _⟩ := run_ve (own_empty31 w) hal.size (hl.on hal).src (veC_one _) (by omega)
    rw [Nat.zero_add, List.nil_append] at ho
    rw [Nat.zero_add] at hrun
    have hb := hal.grown hg hal.size (fun k hk => ((own_empty31 w).lt k hk).1)
    have HO := Lib.hid ho
    have HB := Lib.hid hb
    clear h0 h1 h2 hl ho hb hg hal
    have hq : ∀ w, (binOp BinOp.eql 127 (.slice (some a) l.length cap) (.slice none 0 0)).run Try.prog w = .ok (.bool false) w := fun _ => by kernel_rfl
    go_enter Try.func61, Try.ntmps61
    go_wp2_with (at_builtin; refine wpl_run2 _ _ rfl (by simp [Act.eval]) (by simp [Act.eval]) hrun ?_)
    refine bodyPost_ret (v := .slice ad' l.length cap') (by simp [results, Try.results61, go_sem]) rfl ?_
    exact ⟨ad', cap', rfl, HO.out, HB.out⟩
end
end Go.Proofs.Ytcoaahlakkghhaa
/- The walks of Newest and Rows. -/
namespace Go.Proofs.Ytcoaahlakkghhaa
open Go.RowKit

section
variable {w w' W V : World} {A : Nat} {S T : Nat → Prop} {G : List Gw} {rv : Value} {R : List Rw}
theorem newR_fd {R : List Rw} {k : ByteArray} : newR R k = match R[place R k]? with
    | some r => if r.key = k then newest r.list else 0
    | none => 0 := rfl
end
end Go.Proofs.Ytcoaahlakkghhaa
/- Rows in memory of their own; the walk of Rows. -/
namespace Go.Proofs.Ytcoaahlakkghhaa
open Go.RowKit

theorem cell_fr {V X : World} {T : Nat → Prop} {a : Addr} {u : Value} (h : Fr V X T) (ht : ¬ T a.block) (y : V.cell? a = some u) : X.cell? a = some u := by
  have hl : a.block < V.heap.size := by
    refine Classical.byContradiction fun q => ?_
    unfold World.cell? at y
    rw [Array.getElem?_eq_none (by omega)] at y
    simp at y
  unfold World.cell? at y ⊢
  rw [h.block _ hl ht]
  exact y
def rwC (P : List (Rw × Value)) : List Value := P.flatMap fun p => [.string p.1.key, p.2]
theorem rwC_append (a b : List (Rw × Value)) : rwC (a ++ b) = rwC a ++ rwC b := by simp [rwC]
theorem rwC_len (P : List (Rw × Value)) : (rwC P).length = P.length * 2 := by
  induction P with
  | nil => rfl
  | cons p P ih =>
    have e : rwC (p :: P) = rwC [p] ++ rwC P := by simp [rwC]
    rw [e, List.length_append, ih]
    simp [rwC]
    omega
theorem rwC_get (P : List (Rw × Value)) : ∀ (k : Nat) (h : k < P.length), (rwC P)[k * 2]? = some (.string P[k].1.key) ∧ (rwC P)[k * 2 + 1]? = some P[k].2 := by
  induction P with
  | nil => intro k h; simp at h
  | cons p P ih =>
    intro k h
    have e0 : rwC (p :: P) = .string p.1.key :: p.2 :: rwC P := by simp [rwC]
    rw [e0]
    cases k with
    | zero => simp
    | succ k =>
      have := ih k (by simpa using h)
      have e : (k + 1) * 2 = k * 2 + 2 := by omega
      rw [e]
      simpa using this
/-- Rows in memory of their own. -/
structure Rm (w : World) (B : Nat) (P : List (Rw × Value)) (v : Value) : Prop where
  own : w.ownsRow B 129 2 v P.length (rwC P)
  ls : ∀ p ∈ P, w.ownsRow B 125 3 p.2 p.1.list.length (veC p.1.list)
theorem Rm.nil (w : World) (B : Nat) : Rm w B [] (.slice none 0 0) := ⟨World.ownsRow_nil _ _ _ _, fun p hp => by cases hp⟩
section
variable {w w' W V : World} {A : Nat} {S T : Nat → Prop} {G : List Gw} {rv : Value} {R : List Rw} {B : Nat} {P : List (Rw × Value)} {v : Value}
theorem Rm.on (h : Rm w B P v) (hb : Below w.heap.size w w') : Rm w' B P v := ⟨own_below h.own hb, fun p hp => own_below (h.ls p hp) hb⟩
theorem own_tag {e : TypeId} {c n : Nat} {v : Value} {xs : List Value} (h : w.ownsRow B e c v n xs) : ∀ k, v.ownBlock = some k → ∃ cs, w.heap[k]? = some (.cells cs e (0, 0)) := by
  intro k hk
  rcases h.2 with ⟨hv, _⟩ | ⟨g, cap, cur, hv, _, hg, _⟩
  · rw [hv] at hk; cases hk
  · rw [hv] at hk
    simp only [Value.ownBlock, Option.some.injEq] at hk
    subst hk
    exact ⟨cur, hg⟩
/-- One row more: what the row needs lies at Y. -/
theorem Rm.snoc (h : Rm w B P v) (hB : B ≤ w.heap.size) {r : Rw} {lv : Value} {Y : Nat} (hl : w.ownsRow B 125 3 lv r.list.length (veC r.list)) (hY : w.heap[Y]? = some (.cells #[.string r.key, lv] 129 (0, 0))) (hf : P.length < 900000) :
    ∃ ad cap w', (Builtin.append_ #[61, 61] 61 #[v, .slice (some ⟨Y, 0, none⟩) 1 1]).run Try.prog w = .ok (.slice ad (P.length + 1) cap) w' ∧ Rm w' B (P ++ [(r, lv)]) (.slice ad (P.length + 1) cap) ∧ Fr w w' (fun k => v.ownBlock = some k) := by
  obtain ⟨lad, lcap, hlv⟩ := own_shape hl
  have hone : ∀ u ∈ rwC [(r, lv)], u.oneCell' = true := by
    intro u hu
    rw [hlv] at hu
    simp [rwC] at hu
    rcases hu with rfl | rfl <;> rfl
  obtain ⟨ad, cap, w', hrun, ho, hg, hat⟩ := run_rw (m := 1) (c := 1) (news := rwC [(r, lv)]) h.own hB (.inr ⟨⟨Y, 0, none⟩, rfl, rfl, fun j u hu => by
    rw [add_at, Nat.zero_add, cell_blk hY]
    simpa [rwC] using hu⟩) hone (by omega)
  have hfr : Fr w w' (fun k => v.ownBlock = some k) := Fr.grown (Fr.refl w _) hg (fun k hk => .inl hk)
  refine ⟨ad, cap, w', hrun, ⟨by rw [List.length_append, rwC_append]; exact ho, fun p hp => ?_⟩, hfr⟩
  have keep : ∀ q : Value, ∀ n xs, w.ownsRow B 125 3 q n xs → w'.ownsRow B 125 3 q n xs := by
    intro q n xs hq
    refine own_like hq (fun k hk => hg.block k (hq.lt k hk).2 (fun e => ?_))
    obtain ⟨c1, t1⟩ := own_tag hq k hk
    obtain ⟨c2, t2⟩ := own_tag h.own k e.symm
    exact tag_ne t1 t2 (by decide) rfl
  rcases List.mem_append.1 hp with hp | hp
  · exact keep _ _ _ (h.ls p hp)
  · rw [List.mem_singleton.1 hp]
    exact keep _ _ _ hl
def RJ (G : List Gw) (w wr : World) (lv iv : Value) : Prop := ∃ (j : Nat) (P : List (Rw × Value)), j ≤ G.length ∧ iv = .int .i64 (j : Int) ∧ P.map Prod.fst = (G.map Gw.r).take j ∧ Rm wr w.heap.size P lv ∧ Below w.heap.size w wr
def RowsAns (w : World) (R : List Rw) (e : Ending) (w' : World) : Prop := ∃ ad cap P, e = .returned (.slice ad P.length cap) ∧ P.map Prod.fst = R ∧ Rm w' w.heap.size P (.slice ad P.length cap) ∧ Below w.heap.size w w'
set_option maxHeartbeats 4000000 in
set_option maxRecDepth 100000 in
theorem rows_any (h : Sv w A S G rv) : Calls Try.prog 35 #[.pointer (some ⟨A, 0, none⟩)] w fun e w' => RowsAns w (G.map Gw.r) e w' := by
  obtain ⟨ad, cap, rfl, hc1, hc2, _⟩ := h.shape
  have a0 : w.cell? ⟨A, 0, none⟩ = some (.slice ad G.length cap) := cell_blk h.ob 0
  have hm : (cap : Int) ≤ 9223372036854775807 := by unfold maxLen at hc2; omega
  have hl0 : (G.length : Int) ≤ 9223372036854775807 := by omega
  have hfew := h.few
  have HH := Lib.hid h
  clear h
  go_enter Try.func35, Try.ntmps35
  go_wp2
  go_loopw [3, 13] (fun lv iv wr => RJ G w wr lv iv) (fun _ iv _ => G.length - (intOf iv).toNat)
  case atStart => exact ⟨0, [], Nat.zero_le _, rfl, rfl, Rm.nil _ _, Below.refl _ _⟩
  case round =>
    obtain ⟨j, P, hj, rfl, hPR, hRm, hbw⟩ := hrel
    obtain ⟨V, rfl⟩ : ∃ V, V = wr := ⟨_, rfl⟩
    have hPl : P.length = j := by have := congrArg List.length hPR; simp at this; omega
    obtain ⟨oad, ocap, rfl⟩ := own_shape hRm.own
    by_cases hlt : j < G.length
    · have j0 : (0 : Int) ≤ (j : Int) := by omega
      have j1 : (j : Int) < (G.length : Int) := by omega
      have hv := HH.out.on hbw
      obtain ⟨g, cap', e, _, _, hp0⟩ := hv.ptr hlt
      cases e
      have hp1 : V.cell? ⟨g, j, none⟩ = some (.pointer (some ⟨G[j].ptr, 0, none⟩)) := hp0
      clear hp0
      have hat := hv.at' _ (List.getElem_mem hlt)
      have hls := hv.ls _ (List.getElem_mem hlt)
      have hqS := HH.out.lt _ (HH.out.covp _ (List.getElem_mem hlt))
      have hlS := fun k hk => HH.out.lt _ (HH.out.covl _ (List.getElem_mem hlt) k hk)
      have hll := HH.out.less _ (List.getElem_mem hlt)
      have hnx : (P ++ [(G[j].r, G[j].lv)]).map Prod.fst = (G.map Gw.r).take (j + 1) := by
        rw [List.map_append, hPR, List.take_add_one, List.getElem?_map, List.getElem?_eq_getElem hlt]
        rfl
      obtain ⟨x, hx⟩ : ∃ x, G[j] = x := ⟨_, rfl⟩
      rw [hx] at hp1 hat hls hqS hlS hnx hll
      obtain ⟨r, q, lv⟩ := x
      simp only at hp1 hat hls hqS hlS hnx hll
      obtain ⟨lad, lcap, rfl⟩ := own_shape hls
      have hnx2 : ∀ u, (P ++ [(r, u)]).map Prod.fst = (G.map Gw.r).take (j + 1) := fun u => by rw [← hnx]; simp
      have r0 : V.cell? ⟨q, 0, none⟩ = some (.string r.key) := cell_blk hat 0
      have r1 : V.cell? ⟨q, 1, none⟩ = some (.slice lad r.list.length lcap) := cell_blk hat 1
      have hob : ∀ k, (Value.slice oad P.length ocap).ownBlock = some k → w.heap.size ≤ k ∧ k < V.heap.size := hRm.own.lt
      have hnq : ¬ (Value.slice oad P.length ocap).ownBlock = some q := fun e => by have := hob q e; omega
      have hwV := hbw.size
      have HLS := Lib.hid hls
      have HNX := Lib.hid hnx2
      have HRM := Lib.hid hRm
      have HBW := Lib.hid hbw
      have HOB := Lib.hid hob
      have HLB := Lib.hid hlS
      clear hnx hnx2 hx hat hls hv hRm hbw hPR hob hlS
      go_upto_region 7 with fail
      refine wp_region_once 12 (fun d X9 => Fr V X9 (fun k => (Value.slice oad P.length ocap).ownBlock = some k) ∧ (d = false → Below V.heap.size V X9)) (fun X9 X' => Below X9.heap.size X9 X') (fun X9 X' => Fr X9 X' (fun k => (Value.slice oad P.length ocap).ownBlock = some k)) [
        fun v _ => v = (.slice oad P.length ocap),
        fun v _ => v = .pointer (some ⟨q, 0, none⟩),
        fun v _ => v = .pointer (some ⟨q, 0, none⟩),
        fun v _ => v = .pointer (some ⟨q, 0, none⟩),
        fun v _ => v = .string r.key,
        fun v _ => v = .pointer (some ⟨q, 0, none⟩),
        fun v _ => v = .pointer (some ⟨q, 0, none⟩),
        fun v _ => v = .pointer (some ⟨q, 1, none⟩),
        fun v _ => v = .slice lad r.list.length lcap,
        fun v X9 => ∃ cad ccap, v = .slice cad r.list.length ccap ∧ X9.ownsRow V.heap.size 125 3 v r.list.length (veC r.list),
        fun v X9 => ∃ cad ccap, v = .agg #[.string r.key, .slice cad r.list.length ccap] ∧ X9.ownsRow V.heap.size 125 3 (.slice cad r.list.length ccap) r.list.length (veC r.list),
        fun v X9 => ∃ Y cad ccap, v = .slice (some ⟨Y, 0, none⟩) 1 1 ∧ V.heap.size ≤ Y ∧ X9.heap[Y]? = some (.cells #[.string r.key, .slice cad r.list.length ccap] 129 (0, 0)) ∧ X9.ownsRow V.heap.size 125 3 (.slice cad r.list.length ccap) r.list.length (veC r.list),
        fun v X9 => ∃ ad9 cap9 u9, v = .slice ad9 (P.length + 1) cap9 ∧ Rm X9 w.heap.size (P ++ [(r, u9)]) v ∧ Below w.heap.size w X9]
        (fun v X9 => ∃ ad9 cap9 u9, v = .slice ad9 (P.length + 1) cap9 ∧ Rm X9 w.heap.size (P ++ [(r, u9)]) v ∧ Below w.heap.size w X9) rfl (by kernel_rfl) (by kernel_rfl) (by kernel_rfl) (by kernel_rfl) ?st ?stm ?g0 (by decide) ?os ?la ?en
      case st => exact ⟨fun _ _ _ _ h => h, fun _ _ _ _ h => h, fun _ _ _ _ h => h, fun _ _ _ _ h => h, fun _ _ _ _ h => h, fun _ _ _ _ h => h, fun _ _ _ _ h => h, fun _ _ _ _ h => h, fun _ _ _ _ h => h, fun _ _ _ hs ⟨x, y, e, z⟩ => ⟨x, y, e, own_below z hs⟩, fun _ _ _ hs ⟨x, y, e, z⟩ => ⟨x, y, e, own_below z hs⟩, fun _ _ _ hs ⟨Y, x, y, e, z1, z2, z⟩ => ⟨Y, x, y, e, z1, (hs.block Y (blk_lt z2)).trans z2, own_below z hs⟩, fun _ _ _ hs ⟨x, y, u, e, z, z2⟩ => ⟨x, y, u, e, z.on hs, z2.trans (hs.mono z2.size)⟩, trivial⟩
      case stm => exact ⟨fun _ _ _ _ h => h, fun _ _ _ _ h => h, fun _ _ _ _ h => h, fun _ _ _ _ h => h, fun _ _ _ _ h => h, fun _ _ _ _ h => h, fun _ _ _ _ h => h, fun _ _ _ _ h => h, fun _ _ _ _ h => h, fun _ _ _ hs ⟨x, y, e, z⟩ => ⟨x, y, e, row_keep z hs (fun k hk e => by have z1 := (z.lt k hk).1; have z2 := HOB.out k e; omega)⟩, fun _ _ _ hs ⟨x, y, e, z⟩ => ⟨x, y, e, row_keep z hs (fun k hk e => by have z1 := (z.lt k hk).1; have z2 := HOB.out k e; omega)⟩, fun _ _ _ hs ⟨Y, x, y, e, z1, z2, z⟩ => ⟨Y, x, y, e, z1, (hs.block Y (blk_lt z2) (fun e => by have z3 := HOB.out Y e; omega)).trans z2, row_keep z hs (fun k hk e => by have z1 := (z.lt k hk).1; have z2 := HOB.out k e; omega)⟩, fun _ _ _ _ h => h, trivial⟩
      case g0 => exact ⟨⟨rfl, rfl, rfl, Nat.le_refl _, fun _ _ _ => rfl⟩, fun _ => ⟨rfl, rfl, rfl, Nat.le_refl _, fun _ _ => rfl⟩⟩
      case os =>
        refine ⟨?_, ?_, ?_, ?_, ?_, ?_, ?_, ?_, ?_, ?_, ?_, ?_, ?_, trivial⟩
        · exact ⟨rfl, fun _ ρ X9 d hg ho hc hf hr => Runs.val _ (op_move (show ρ (.tmp 3) = (.slice oad P.length ocap) from ho 3 rfl)) ⟨hg, Below.refl _ _, rfl⟩, fun e => absurd e (by decide)⟩
        · exact ⟨rfl, fun _ ρ X9 d hg ho hc hf hr => Runs.val _ (op_move (show ρ (.tmp 5) = .pointer (some ⟨q, 0, none⟩) from ho 5 rfl)) ⟨hg, Below.refl _ _, rfl⟩, fun e => absurd e (by decide)⟩
        · exact ⟨rfl, fun _ ρ X9 d hg ho hc hf hr => Runs.val _ (op_nil (show ρ (.tmp 18) = .pointer (some ⟨q, 0, none⟩) from hr 1 18 rfl rfl)) ⟨hg, Below.refl _ _, rfl⟩, fun e => absurd e (by decide)⟩
        · exact ⟨rfl, fun _ ρ X9 d hg ho hc hf hr => Runs.val _ (op_f129_0 (show ρ (.tmp 19) = .pointer (some ⟨q, 0, none⟩) from hr 2 19 rfl rfl)) ⟨hg, Below.refl _ _, rfl⟩, fun e => absurd e (by decide)⟩
        · exact ⟨rfl, fun _ ρ X9 d hg ho hc hf hr => Runs.val _ (op_load9 (show ρ (.tmp 20) = .pointer (some ⟨q, 0, none⟩) from hr 3 20 rfl rfl) (cell_fr hg.1 hnq r0)) ⟨hg, Below.refl _ _, rfl⟩, fun e => absurd e (by decide)⟩
        · exact ⟨rfl, fun _ ρ X9 d hg ho hc hf hr => Runs.val _ (op_move (show ρ (.tmp 5) = .pointer (some ⟨q, 0, none⟩) from ho 5 rfl)) ⟨hg, Below.refl _ _, rfl⟩, fun e => absurd e (by decide)⟩
        · exact ⟨rfl, fun _ ρ X9 d hg ho hc hf hr => Runs.val _ (op_nil (show ρ (.tmp 22) = .pointer (some ⟨q, 0, none⟩) from hr 5 22 rfl rfl)) ⟨hg, Below.refl _ _, rfl⟩, fun e => absurd e (by decide)⟩
        · exact ⟨rfl, fun _ ρ X9 d hg ho hc hf hr => Runs.val _ (op_f129_1 (show ρ (.tmp 23) = .pointer (some ⟨q, 0, none⟩) from hr 6 23 rfl rfl)) ⟨hg, Below.refl _ _, rfl⟩, fun e => absurd e (by decide)⟩
        · exact ⟨rfl, fun _ ρ X9 d hg ho hc hf hr => Runs.val _ (op_load127 (show ρ (.tmp 24) = .pointer (some ⟨q, 1, none⟩) from hr 7 24 rfl rfl) (cell_fr hg.1 hnq r1)) ⟨hg, Below.refl _ _, rfl⟩, fun e => absurd e (by decide)⟩
        · refine ⟨rfl, fun _ ρ X9 d hg ho hc hf hr => ?_, fun e => absurd e (by decide)⟩
          refine Runs.goes 61 #[.slice lad r.list.length lcap] (op_call1 hf call61 (show ρ (.tmp 25) = .slice lad r.list.length lcap from hr 8 25 rfl rfl)) ((clone_any (Vs.own (row_keep HLS.out hg.1 (fun k hk e => by have z1 := HLB.out k hk; have z2 := HOB.out k e; omega))) (by omega)).mono ?_)
          rintro e7 w7 ⟨cad, ccap, rfl, ho7, hb7⟩
          exact ⟨_, rfl, ⟨hg.1.below hb7, fun z => (hg.2 z).trans (hb7.mono (hg.2 z).size)⟩, hb7, cad, ccap, rfl, own_mono ho7 hg.1.size⟩
        · refine ⟨rfl, fun _ ρ X9 d hg ho hc hf hr => ?_, fun e => absurd e (by decide)⟩
          obtain ⟨cad, ccap, e, z⟩ : ∃ cad ccap, ρ (.tmp 26) = .slice cad r.list.length ccap ∧ X9.ownsRow V.heap.size 125 3 (ρ (.tmp 26)) r.list.length (veC r.list) := hr 9 26 rfl rfl
          rw [e] at z
          exact Runs.val _ (op_b129 (show ρ (.tmp 21) = .string r.key from hr 4 21 rfl rfl) e) ⟨hg, Below.refl _ _, cad, ccap, rfl, z⟩
        · refine ⟨rfl, fun _ ρ X9 d hg ho hc hf hr => ?_, fun e => absurd e (by decide)⟩
          obtain ⟨cad, ccap, e, z⟩ : ∃ cad ccap, ρ (.tmp 27) = .agg #[.string r.key, .slice cad r.list.length ccap] ∧ X9.ownsRow V.heap.size 125 3 (.slice cad r.list.length ccap) r.list.length (veC r.list) := hr 10 27 rfl rfl
          have hb7 : Below X9.heap.size X9 (X9.alloc (.cells #[.string r.key, .slice cad r.list.length ccap] 129)) := (Below.refl _ X9).alloc (Nat.le_refl _) _
          exact Runs.val _ (op_s61 e) ⟨⟨hg.1.below hb7, fun z => (hg.2 z).trans (hb7.mono (hg.2 z).size)⟩, hb7, X9.heap.size, cad, ccap, rfl, hg.1.size, heap_alloc_new X9 _, own_below z hb7⟩
        · refine ⟨rfl, fun e => absurd rfl e, fun _ ρ X9 hg ho hc hf hr => ?_⟩
          obtain ⟨Y, cad, ccap, e, z1, z2, z⟩ : ∃ Y cad ccap, ρ (.tmp 28) = .slice (some ⟨Y, 0, none⟩) 1 1 ∧ V.heap.size ≤ Y ∧ X9.heap[Y]? = some (.cells #[.string r.key, .slice cad r.list.length ccap] 129 (0, 0)) ∧ X9.ownsRow V.heap.size 125 3 (.slice cad r.list.length ccap) r.list.length (veC r.list) := hr 11 28 rfl rfl
          have hbX := hg.2 rfl
          obtain ⟨ad9, cap9, w9, hrun, hR9, hf9⟩ := (HRM.out.on hbX).snoc (r := r) (by have := hbX.size; omega) (own_mono z hwV) z2 (by omega)
          have hB9 : Below w.heap.size w w9 := (HBW.out.trans (hbX.mono HBW.out.size)).trans (hf9.toBelow (fun k hk e => by have z3 := HOB.out k e; omega) (by have := hbX.size; omega))
          exact Runs.val _ (op_append61 (show ρ (.tmp 17) = (.slice oad P.length ocap) from hr 0 17 rfl rfl) e hrun) ⟨⟨hg.1.trans hf9, fun z => by cases z⟩, hf9, ad9, cap9, _, rfl, hR9, hB9⟩
      case la =>
        refine ⟨rfl, fun ρ X9 hg ho hc hf hr => ?_⟩
        obtain ⟨ad9, cap9, u9, e, z1, z2⟩ : ∃ ad9 cap9 u9, ρ (.tmp 29) = .slice ad9 (P.length + 1) cap9 ∧ Rm X9 w.heap.size (P ++ [(r, u9)]) (ρ (.tmp 29)) ∧ Below w.heap.size w X9 := hr 12 29 (by decide) rfl
        rw [e] at z1
        exact Runs.val _ (op_assign e) ⟨ad9, cap9, u9, rfl, z1, z2⟩
      case en =>
        intro a X9 Xb v hF hs hd ho hv hr
        obtain ⟨x, hx, hxt⟩ := act_put hs hd ho
        have x3 : x 3 = v := (hxt 3).symm.trans (hv 3 rfl)
        change a = putAll _ x [17, 18, 19, 20, 21, 22, 23, 24, 25, 26, 27, 28, 29, 3] at hx
        simp only [putAll, Act.put, List.setIfInBounds_toArray, List.set_cons_zero, List.set_cons_succ, x3] at hx
        have HG := Lib.hid hF
        clear hF hs hd ho hr hv hxt x3
        subst hx
        obtain ⟨ad9, cap9, u9, rfl, hR9, hB9⟩ := HG.out
        have HR9 := Lib.hid hR9
        have HB9 := Lib.hid hB9
        clear hR9 hB9 HG
        go_wp2
        go_roundw
        case rel => exact ⟨j + 1, P ++ [(r, u9)], by omega, by go_num, HNX.out u9, HR9.out, HB9.out⟩
        case measure => simp [intOf]; omega
    · have j1 : ¬ (j : Int) < (G.length : Int) := by omega
      have ej : j = G.length := by omega
      have hR : P.map Prod.fst = G.map Gw.r := by rw [hPR, ej, List.take_of_length_le (by rw [List.length_map]; exact Nat.le_refl _)]
      have HA : Hid (RowsAns w (G.map Gw.r) (.returned (.slice oad P.length ocap)) V) := ⟨oad, ocap, P, rfl, hR, hRm, hbw⟩
      clear hR ej hRm hbw hPR hPl
      go_wp2
      go_ret
      exact HA.out
end
end Go.Proofs.Ytcoaahlakkghhaa
/- Hits in memory of their own; the walk of Span. -/
namespace Go.Proofs.Ytcoaahlakkghhaa
open Go.RowKit

theorem span_stop {R : List Rw} (hs : Sorted R) {x y : ByteArray} {t : Int} {p j : Nat} (hp : place R x = p) (h1 : ∀ i (h : i < R.length), p ≤ i → i < p + j → cb R[i].key y < 0) (h2 : ∀ h : p + j < R.length, ¬ cb R[p + j].key y < 0) : span R x y t = ((R.drop p).take j).filterMap (hit t) := by
  unfold span
  have e0 : R = R.take p ++ ((R.drop p).take j ++ (R.drop p).drop j) := by rw [List.take_append_drop, List.take_append_drop]
  have a1 : (R.take p).filter (fun r => inSpan x y r.key) = [] := by
    refine List.filter_eq_nil_iff.2 (fun r hr => ?_)
    obtain ⟨i, hi, e⟩ := List.getElem_of_mem hr
    rw [List.length_take] at hi
    rw [List.getElem_take] at e
    have := place_lt (R := R) (k := x) (i := i) (by omega) (by omega)
    rw [e] at this
    have := cb_turn r.key x
    unfold inSpan
    simp only [Bool.and_eq_true, decide_eq_true_eq]
    omega
  have a2 : ((R.drop p).take j).filter (fun r => inSpan x y r.key) = (R.drop p).take j := by
    refine List.filter_eq_self.2 (fun r hr => ?_)
    obtain ⟨i, hi, e⟩ := List.getElem_of_mem hr
    rw [List.length_take, List.length_drop] at hi
    rw [List.getElem_take, List.getElem_drop] at e
    have q1 := place_ge (R := R) (k := x) hs (i := p + i) (by omega) (by omega)
    have q2 := h1 (p + i) (by omega) (by omega) (by omega)
    rw [e] at q1 q2
    have := cb_turn r.key x
    unfold inSpan
    simp only [Bool.and_eq_true, decide_eq_true_eq]
    omega
  have a3 : ((R.drop p).drop j).filter (fun r => inSpan x y r.key) = [] := by
    refine List.filter_eq_nil_iff.2 (fun r hr => ?_)
    obtain ⟨i, hi, e⟩ := List.getElem_of_mem hr
    rw [List.drop_drop] at hi
    rw [List.length_drop] at hi
    simp only [List.drop_drop, List.getElem_drop] at e
    have q0 := h2 (by omega)
    have q1 : ¬ cb R[p + j + i].key y < 0 := by
      by_cases z : i = 0
      · subst z
        exact q0
      · have q3 := List.pairwise_iff_getElem.1 hs (p + j) (p + j + i) (by omega) (by omega) (by omega)
        intro q
        exact q0 (cb_lt q3 (by omega))
    rw [e] at q1
    unfold inSpan
    simp only [Bool.and_eq_true, decide_eq_true_eq]
    omega
  rw [e0, List.filter_append, List.filter_append, ← e0, a1, a2, a3, List.nil_append, List.append_nil]
def hitO (k : ByteArray) : Option Ve → Option Hi
  | some v => if v.dead then none else some ⟨k, v.ts, v.val⟩
  | none => none
theorem hit_is (t : Int) (r : Rw) : hit t r = hitO r.key (tops r.list t) := by
  unfold hit hitO
  cases tops r.list t <;> rfl
def hiC (H : List Hi) : List Value := H.flatMap fun h => [.string h.key, .int .i64 h.ts, .string h.val]
theorem hiC_append (a b : List Hi) : hiC (a ++ b) = hiC a ++ hiC b := by simp [hiC]
theorem hiC_len (H : List Hi) : (hiC H).length = H.length * 3 := by
  induction H with
  | nil => rfl
  | cons p P ih =>
    have e : hiC (p :: P) = hiC [p] ++ hiC P := by simp [hiC]
    rw [e, List.length_append, ih]
    simp [hiC]
    omega
theorem hiC_get (H : List Hi) : ∀ (k : Nat) (h : k < H.length), (hiC H)[k * 3]? = some (.string H[k].key) ∧ (hiC H)[k * 3 + 1]? = some (.int .i64 H[k].ts) ∧ (hiC H)[k * 3 + 2]? = some (.string H[k].val) := by
  induction H with
  | nil => intro k h; simp at h
  | cons p P ih =>
    intro k h
    have e0 : hiC (p :: P) = .string p.key :: .int .i64 p.ts :: .string p.val :: hiC P := by simp [hiC]
    rw [e0]
    cases k with
    | zero => simp
    | succ k =>
      have := ih k (by simpa using h)
      have e : (k + 1) * 3 = k * 3 + 3 := by omega
      rw [e]
      simpa using this
theorem hiC_one (H : List Hi) : ∀ u ∈ hiC H, u.oneCell' = true := by
  intro u hu
  obtain ⟨f, _, hf⟩ := List.mem_flatMap.1 hu
  simp at hf
  rcases hf with rfl | rfl | rfl <;> rfl
section
variable {ρ : Operand → Value} {X : World} {d : Option Tmp} {ty : TypeId} {ps : String} {af : Array Edge} {g : Option (Nat × Bool)}
theorem op_f57_0 {x : Operand} {B o : Nat} (e : ρ x = .pointer (some ⟨B, o, none⟩)) : (execOp ρ ⟨d, .fieldAddr 57 x 0, ty, ps, af, g⟩).run Try.prog X = .ok (.value (.pointer (some ⟨B, o, none⟩))) X := by
  simp only [execOp, e]
  go_simp
theorem op_len114 {x : Operand} {a : Option Addr} {n m : Nat} (e : ρ x = .slice a n m) : (execOp ρ ⟨d, .call { callee := .builtin .len, args := #[x], argTypes := #[114] }, 3, ps, af, g⟩).run Try.prog X = .ok (.value (.int .i64 (n : Int))) X := by
  simp only [execOp]
  simp [resolve, invoke, builtin, e]
  go_simp
theorem op_slice114 {x y : Operand} {v1 v2 v' : Value} (hx : ρ x = v1) (hy : ρ y = v2) (hrun : ∀ X : World, (Instr.sliceAt 114 v1 (some v2) none none).run Try.prog X = .ok v' X) : (execOp ρ ⟨d, .slice 114 x (some y) none none, ty, ps, af, g⟩).run Try.prog X = .ok (.value v') X := by
  simp only [execOp, Option.map_some, Option.map_none, hx, hy, Sem.run_bind, hrun, Result.andThen_ok, Sem.run_pure]
theorem op_call2 {f : FuncId} {x0 x1 : Operand} {v0 v1 : Value} {at' : Array TypeId} (hf : ∀ f, ρ (.func f) = .func (.func f) #[] #[]) (hc : Sem.run Try.prog (callFunc f #[v0, v1]) X = .ok (.enter f #[v0, v1]) X) (e0 : ρ x0 = v0) (e1 : ρ x1 = v1) : (execOp ρ ⟨d, .call { callee := .value (.func f), args := #[x0, x1], argTypes := at' }, ty, ps, af, g⟩).run Try.prog X = .ok (.enter f #[v0, v1]) X := by
  simp only [execOp]
  simp [resolve, hf, e0, e1, Deferred.ofValue, invoke, hc]
theorem call80 {v u : Value} : Sem.run Try.prog (callFunc 80 #[v, u]) X = .ok (.enter 80 #[v, u]) X := by go_simp
end
section
variable {w w' W V : World} {A : Nat} {S T : Nat → Prop} {G : List Gw} {rv : Value} {R : List Rw} {B : Nat} {H : List Hi} {v : Value}
/-- rows[p:] -/
theorem rows_drop (h : Sv w A S G rv) {ad : Option Addr} {cap p : Nat} (e : rv = .slice ad G.length cap) (hp : p ≤ G.length) : ∃ ad' cap', (∀ X : World, (Instr.sliceAt 114 (.slice ad G.length cap) (some (.int .i64 (p : Int))) none none).run Try.prog X = .ok (.slice ad' (G.length - p) cap') X) ∧ G.length - p ≤ cap' ∧ cap' ≤ maxLen ∧
    (p < G.length → ∃ g, ad = some ⟨g, 0, none⟩ ∧ ad' = some ⟨g, p, none⟩) := by
  obtain ⟨ad0, cap0, e0, hlc, hcm, hnil⟩ := h.shape
  rw [e] at e0
  cases e0
  have hm : (cap : Int) ≤ 9223372036854775807 := by unfold maxLen at hcm; omega
  have i0 : (0 : Int) ≤ (p : Int) := by omega
  have i1 : (p : Int) ≤ (G.length : Int) := by omega
  have i2 : p ≤ cap := by omega
  have i3 : (p : Int) ≤ (cap : Int) := by omega
  have i4 : (G.length : Int) ≤ (cap : Int) := by omega
  rcases h.rows.2 with ⟨hv, h0⟩ | ⟨g, cap', cur, hv, hg, hc, h1, h2, hr⟩
  · rw [e] at hv
    simp only [Value.slice.injEq] at hv
    obtain ⟨rfl, _, rfl⟩ := hv
    have hp0 : p = 0 := by omega
    subst hp0
    refine ⟨none, 0, fun X => ?_, by omega, Nat.zero_le _, fun q => by omega⟩
    rw [h0]
    go_simp
  · rw [e] at hv
    cases hv
    by_cases hpc : cap = p
    · have hpl : p = G.length := by omega
      refine ⟨some ⟨g, 0, none⟩, 0, fun X => ?_, by omega, Nat.zero_le _, fun q => by omega⟩
      have z1 : G.length - p = 0 := by omega
      rw [z1, hpc, ← hpl]
      go_simp
    · refine ⟨some ((⟨g, 0, none⟩ : Addr).add p), cap - p, fun X => ?_, by omega, by omega, fun q => ⟨g, rfl, by rw [add_at, Nat.zero_add]⟩⟩
      have z2 : ¬ cap = p := hpc
      go_simp
/-- One hit more. -/
theorem hits_snoc (h : w.ownsRow B 80 3 v H.length (hiC H)) (hB : B ≤ w.heap.size) {x : Hi} {Y : Nat} (hY : w.heap[Y]? = some (.cells #[.string x.key, .int .i64 x.ts, .string x.val] 80 (0, 0))) (hf : H.length < 900000) :
    ∃ ad cap w', (Builtin.append_ #[77, 77] 77 #[v, .slice (some ⟨Y, 0, none⟩) 1 1]).run Try.prog w = .ok (.slice ad (H.length + 1) cap) w' ∧ w'.ownsRow B 80 3 (.slice ad (H.length + 1) cap) (H ++ [x]).length (hiC (H ++ [x])) ∧ Fr w w' (fun k => v.ownBlock = some k) := by
  obtain ⟨ad, cap, w', hrun, ho, hg, hat⟩ := run_hi (m := 1) (c := 1) (news := hiC [x]) h hB (.inr ⟨⟨Y, 0, none⟩, rfl, rfl, fun j u hu => by
    rw [add_at, Nat.zero_add, cell_blk hY]
    simpa [hiC] using hu⟩) (hiC_one _) (by omega)
  exact ⟨ad, cap, w', hrun, by rw [List.length_append, hiC_append]; exact ho, Fr.grown (Fr.refl w _) hg (fun k hk => .inl hk)⟩
def HJ (R : List Rw) (w wr : World) (p : Nat) (y : ByteArray) (t : Int) (Y : Nat) (x : ByteArray) (n : Nat) (lv iv : Value) : Prop := ∃ (j : Nat) (H : List Hi), j ≤ n ∧ iv = .int .i64 (j : Int) ∧ H = ((R.drop p).take j).filterMap (hit t) ∧ wr.ownsRow (Y + 1) 80 3 lv H.length (hiC H) ∧ wr.heap[Y]? = some (.cells #[.string x, .string y] 57 (0, 0)) ∧ (∀ i (h : i < R.length), p ≤ i → i < p + j → cb R[i].key y < 0) ∧ Below w.heap.size w wr ∧ Y + 1 ≤ wr.heap.size
def SpanAns (w : World) (H : List Hi) (e : Ending) (w' : World) : Prop := ∃ ad cap, e = .returned (.slice ad H.length cap) ∧ w'.ownsRow w.heap.size 80 3 (.slice ad H.length cap) H.length (hiC H) ∧ Below w.heap.size w w'
theorem hit_take {R : List Rw} {p j : Nat} {t : Int} (h : p + j < R.length) : ((R.drop p).take (j + 1)).filterMap (hit t) = ((R.drop p).take j).filterMap (hit t) ++ (match hit t R[p + j] with | some x => [x] | none => []) := by
  rw [List.take_add_one, List.filterMap_append, List.getElem?_drop, List.getElem?_eq_getElem h]
  congr 1
  cases hq : hit t R[p + j] <;> simp [hq]
set_option maxHeartbeats 8000000 in
set_option maxRecDepth 100000 in
theorem span_any (h : Sv w A S G rv) (x y : ByteArray) (t : Int) : Calls Try.prog 49 #[.pointer (some ⟨A, 0, none⟩), .agg #[.string x, .string y], .int .i64 t] w fun e w' => SpanAns w (span (G.map Gw.r) x y t) e w' := by
  obtain ⟨W, hW⟩ : ∃ W, W = w.alloc (.cells #[.string x, .string y] 57) := ⟨_, rfl⟩
  have hb : Below w.heap.size w W := by rw [hW]; exact (Below.refl _ w).alloc (Nat.le_refl _) _
  obtain ⟨Y, hY⟩ : ∃ Y, w.heap.size = Y := ⟨_, rfl⟩
  have jY : W.heap[Y]? = some (.cells #[.string x, .string y] 57 (0, 0)) := by rw [hW, ← hY]; exact heap_alloc_new w _
  have hv := h.on hb
  obtain ⟨ad, cap, hrv, hc1, hc2, _⟩ := hv.shape
  have hpl := place_le (G.map Gw.r) x
  rw [List.length_map] at hpl
  have hpp := fun V (hV : Below W.heap.size W V) => place_any (hv.on hV) x
  obtain ⟨p, hp⟩ : ∃ p, place (G.map Gw.r) x = p := ⟨_, rfl⟩
  rw [hp] at hpl hpp
  obtain ⟨ad', cap', hsl, hsl1, hsl2, hsl3⟩ := rows_drop hv hrv hpl
  have a0 : W.cell? ⟨A, 0, none⟩ = some (.slice ad G.length cap) := by rw [← hrv]; exact cell_blk hv.ob 0
  have y0 : W.cell? ⟨Y, 0, none⟩ = some (.string x) := cell_blk jY 0
  have hfew := h.few
  have hmc : (cap' : Int) ≤ 9223372036854775807 := by unfold maxLen at hsl2; omega
  have hnl : ((G.length - p : Nat) : Int) ≤ 9223372036854775807 := by omega
  have hYl := blk_lt jY
  have HH := Lib.hid h
  have HW := Lib.hid hW
  have HB := Lib.hid hb
  have HYY := Lib.hid hY
  have HJY := Lib.hid jY
  have HPP := Lib.hid hpp
  have HP := Lib.hid hp
  have HS3 := Lib.hid hsl3
  have HRV := Lib.hid hrv
  obtain ⟨n, hn⟩ : ∃ n, G.length - p = n := ⟨_, rfl⟩
  rw [hn] at hsl hnl hsl1
  have HN := Lib.hid hn
  clear hv h hW hb hY jY hpp hp hsl3 hrv hn
  go_enter Try.func49, Try.ntmps49
  go_upto_region 1 with fail
  rw [← HW.out, HYY.out]
  go_upto_region 4 with fail
  refine wp_region_kept (fun X9 => Below W.heap.size W X9) (fun X9 X' => Below X9.heap.size X9 X') [
    fun v _ => v = .pointer (some ⟨A, 0, none⟩),
    fun v _ => v = .pointer (some ⟨A, 0, none⟩),
    fun v _ => v = .pointer (some ⟨A, 0, none⟩),
    fun v _ => v = .slice ad G.length cap,
    fun v _ => v = .pointer (some ⟨A, 0, none⟩),
    fun v _ => v = .pointer (some ⟨Y, 0, none⟩),
    fun v _ => v = .string x,
    fun v _ => v = .int .i64 (p : Int),
    fun v _ => v = .slice ad' n cap',
    fun v _ => v = .int .i64 (n : Int),
    fun v _ => v = .int .i64 0]
    (by kernel_rfl) (by kernel_rfl) (by kernel_rfl) ?st ?g0 ?os ?en
  case st => exact ⟨fun _ _ _ _ h => h, fun _ _ _ _ h => h, fun _ _ _ _ h => h, fun _ _ _ _ h => h, fun _ _ _ _ h => h, fun _ _ _ _ h => h, fun _ _ _ _ h => h, fun _ _ _ _ h => h, fun _ _ _ _ h => h, fun _ _ _ _ h => h, fun _ _ _ _ h => h, trivial⟩
  case g0 => exact ⟨rfl, rfl, rfl, Nat.le_refl _, fun _ _ => rfl⟩
  case os =>
    refine ⟨?_, ?_, ?_, ?_, ?_, ?_, ?_, ?_, ?_, ?_, ?_, trivial⟩
    · exact ⟨rfl, fun ρ X9 hg ho hc hf hr => Runs.val _ (op_move (show ρ (.tmp 0) = .pointer (some ⟨A, 0, none⟩) from ho 0 rfl)) ⟨hg, Below.refl _ _, rfl⟩⟩
    · exact ⟨rfl, fun ρ X9 hg ho hc hf hr => Runs.val _ (op_nil (show ρ (.tmp 14) = .pointer (some ⟨A, 0, none⟩) from hr 0 14 rfl rfl)) ⟨hg, Below.refl _ _, rfl⟩⟩
    · exact ⟨rfl, fun ρ X9 hg ho hc hf hr => Runs.val _ (op_f116_0 (show ρ (.tmp 15) = .pointer (some ⟨A, 0, none⟩) from hr 1 15 rfl rfl)) ⟨hg, Below.refl _ _, rfl⟩⟩
    · exact ⟨rfl, fun ρ X9 hg ho hc hf hr => Runs.val _ (op_load114 (show ρ (.tmp 16) = .pointer (some ⟨A, 0, none⟩) from hr 2 16 rfl rfl) (cell_on hg a0)) ⟨hg, Below.refl _ _, rfl⟩⟩
    · exact ⟨rfl, fun ρ X9 hg ho hc hf hr => Runs.val _ (op_move (show ρ (.tmp 0) = .pointer (some ⟨A, 0, none⟩) from ho 0 rfl)) ⟨hg, Below.refl _ _, rfl⟩⟩
    · exact ⟨rfl, fun ρ X9 hg ho hc hf hr => Runs.val _ (op_f57_0 (show ρ (.tmp 4) = .pointer (some ⟨Y, 0, none⟩) from ho 4 rfl)) ⟨hg, Below.refl _ _, rfl⟩⟩
    · exact ⟨rfl, fun ρ X9 hg ho hc hf hr => Runs.val _ (op_load9 (show ρ (.tmp 19) = .pointer (some ⟨Y, 0, none⟩) from hr 5 19 rfl rfl) (cell_on hg y0)) ⟨hg, Below.refl _ _, rfl⟩⟩
    · refine ⟨rfl, fun ρ X9 hg ho hc hf hr => ?_⟩
      refine Runs.goes 80 #[.pointer (some ⟨A, 0, none⟩), .string x] (op_call2 hf call80 (show ρ (.tmp 18) = .pointer (some ⟨A, 0, none⟩) from hr 4 18 rfl rfl) (show ρ (.tmp 20) = .string x from hr 6 20 rfl rfl)) ((HPP.out X9 hg).mono ?_)
      rintro e7 w7 ⟨rfl, hb7⟩
      exact ⟨_, rfl, hg.trans (hb7.mono hg.size), hb7, rfl⟩
    · exact ⟨rfl, fun ρ X9 hg ho hc hf hr => Runs.val _ (op_slice114 (show ρ (.tmp 17) = .slice ad G.length cap from hr 3 17 rfl rfl) (show ρ (.tmp 21) = .int .i64 (p : Int) from hr 7 21 rfl rfl) hsl) ⟨hg, Below.refl _ _, rfl⟩⟩
    · exact ⟨rfl, fun ρ X9 hg ho hc hf hr => Runs.val _ (op_len114 (show ρ (.tmp 22) = (.slice ad' n cap') from hr 8 22 rfl rfl)) ⟨hg, Below.refl _ _, rfl⟩⟩
    · exact ⟨rfl, fun ρ X9 hg ho hc hf hr => Runs.val _ (op_move (hc _)) ⟨hg, Below.refl _ _, rfl⟩⟩
  case en =>
    intro a X9 hg hs hd ho hr
    obtain ⟨x9, hx, hxt⟩ := act_put hs hd ho
    have e22 : x9 22 = .slice ad' n cap' := (hxt 22).symm.trans (hr 8 22 rfl)
    have e23 : x9 23 = .int .i64 (n : Int) := (hxt 23).symm.trans (hr 9 23 rfl)
    have e24 : x9 24 = .int .i64 0 := (hxt 24).symm.trans (hr 10 24 rfl)
    change a = putAll _ x9 [14, 15, 16, 17, 18, 19, 20, 21, 22, 23, 24] at hx
    simp only [putAll, Act.put, List.setIfInBounds_toArray, List.set_cons_zero, List.set_cons_succ, e22, e23, e24] at hx
    have HG := Lib.hid hg
    clear hg hs hd ho hr hxt e22 e23 e24
    subst hx
    generalize x9 14 = z14, x9 15 = z15, x9 16 = z16, x9 17 = z17, x9 18 = z18, x9 19 = z19, x9 20 = z20, x9 21 = z21
    have hbX : Below w.heap.size w X9 := HB.out.trans (HG.out.mono HB.out.size)
    have jX : X9.heap[Y]? = _ := (HG.out.block Y (blk_lt HJY.out)).trans HJY.out
    have hX1 : Y + 1 ≤ X9.heap.size := blk_lt jX
    have HBX := Lib.hid hbX
    have HJX := Lib.hid jX
    clear hbX jX HG a0 y0
    go_wp2
    go_loopw [7, 24] (fun lv iv wr => HJ (G.map Gw.r) w wr p y t Y x n lv iv) (fun _ iv _ => n - (intOf iv).toNat)
    case atStart => exact ⟨0, [], Nat.zero_le _, rfl, by simp, World.ownsRow_nil _ _ _ _, HJX.out, fun i _ h1 h2 => by omega, HBX.out, hX1⟩
    case round =>
      clear HBX HJX hX1
      obtain ⟨j, H, hj, rfl, hH, hHm, hjY, hlo, hbw, hYs⟩ := hrel
      obtain ⟨V, rfl⟩ : ∃ V, V = wr := ⟨_, rfl⟩
      have y1 : V.cell? ⟨Y, 1, none⟩ = some (.string y) := cell_blk hjY 1
      obtain ⟨oad, ocap, rfl⟩ := own_shape hHm
      have hHl : H.length ≤ j := by rw [hH]; exact Nat.le_trans (List.length_filterMap_le _ _) (by rw [List.length_take]; omega)
      have hhm0 : V.ownsRow w.heap.size 80 3 (.slice oad H.length ocap) H.length (hiC H) := own_mono hHm (by have := HYY.out; omega)
      by_cases hlt : j < n
      · have hpj : p + j < G.length := by have := HN.out; omega
        have j0 : (0 : Int) ≤ (j : Int) := by omega
        have j1 : (j : Int) < (n : Int) := by omega
        have hv := HH.out.on hbw
        have hq9 := HS3.out (by omega)
        obtain ⟨g, e1, e2⟩ := hq9
        subst e2
        obtain ⟨g', cap9, e, _, _, hp0⟩ := hv.ptr hpj
        rw [HRV.out, e1] at e
        cases e
        have hp1 : V.cell? ⟨g, p + j, none⟩ = some (.pointer (some ⟨G[p + j].ptr, 0, none⟩)) := hp0
        clear hp0
        have hat := hv.at' _ (List.getElem_mem hpj)
        have hls := hv.ls _ (List.getElem_mem hpj)
        have hqS := HH.out.lt _ (HH.out.covp _ (List.getElem_mem hpj))
        have hlS := fun k hk => HH.out.lt _ (HH.out.covl _ (List.getElem_mem hpj) k hk)
        have hll := HH.out.less _ (List.getElem_mem hpj)
        have hri := (HH.out.ok.rise G[p + j].r (List.mem_map_of_mem (List.getElem_mem hpj))).up
        have hht := hit_take (R := G.map Gw.r) (p := p) (j := j) (t := t) (by rw [List.length_map]; exact hpj)
        rw [List.getElem_map] at hht
        have hky : ∀ i (h : i < (G.map Gw.r).length), i = p + j → (G.map Gw.r)[i].key = G[p + j].r.key := fun i h e => by subst e; rw [List.getElem_map]
        obtain ⟨z, hz⟩ : ∃ z, G[p + j] = z := ⟨_, rfl⟩
        rw [hz] at hp1 hat hls hqS hlS hll hri hht hky
        obtain ⟨r, q, lv⟩ := z
        simp only at hp1 hat hls hqS hlS hll hri hht hky
        obtain ⟨lad, lcap, rfl⟩ := own_shape hls
        have r0 : V.cell? ⟨q, 0, none⟩ = some (.string r.key) := cell_blk hat 0
        have r1 : V.cell? ⟨q, 1, none⟩ = some (.slice lad r.list.length lcap) := cell_blk hat 1
        have hle := less_eq r.key y
        have HLE := Lib.hid hle
        by_cases hky2 : cb r.key y < 0
        · have hdk : (!Op.bytesLess r.key.toList y.toList) = false := by rw [HLE.out, decide_eq_true hky2]; rfl
          have hlo2 : ∀ i (h : i < (G.map Gw.r).length), p ≤ i → i < p + (j + 1) → cb (G.map Gw.r)[i].key y < 0 := fun i h h1 h2 => by
            by_cases z : i < p + j
            · exact hlo i h h1 z
            · rw [hky i h (by omega)]
              exact hky2
          have hatc := fun X (hX : Below V.heap.size V X) => at_any (own_below hls hX) hri (by omega) t
          have HLO := Lib.hid hlo2
          have HHM := Lib.hid hHm
          have HAT := Lib.hid hatc
          have HHT := Lib.hid hht
          have HHH := Lib.hid hH
          have HBW := Lib.hid hbw
          have HJV := Lib.hid hjY
          have HHAT := Lib.hid hat
          clear hz hle hv hat hls hlo hlo2 hHm hhm0 hatc hht hH hbw hjY hky hri e1
          go_wp2
          go_quiet (fail)
          have bq := below_draw (Below.refl V.heap.size V) nq
          have r1' := cell_on bq r1
          have hatq := HAT.out _ bq
          have HBQ := Lib.hid bq
          obtain ⟨V2, hV2⟩ : ∃ V2, V.drewN nq = V2 := ⟨_, rfl⟩
          rw [hV2] at r1' hatq HBQ ⊢
          clear bq hV2 r0 y1
          obtain ⟨tp, htp⟩ : ∃ tp, tops r.list t = tp := ⟨_, rfl⟩
          rw [htp] at hatq
          have hhr : hit t r = hitO r.key tp := by rw [hit_is, htp]
          have HHR := Lib.hid hhr
          clear htp hhr
          cases tp with
          | none =>
            have hatn : Calls Try.prog 81 #[.slice lad r.list.length lcap, .int .i64 t] V2 fun e w' => e = .returned (.tuple #[.agg #[.int .i64 0, .string noT, .bool false], .bool false]) ∧ Below V2.heap.size V2 w' := hatq
            have HNX : Hid (H = (((G.map Gw.r).drop p).take (j + 1)).filterMap (hit t)) := by
              have e1 := HHT.out
              rw [HHR.out, ← HHH.out] at e1
              exact ((List.append_nil H).symm.trans e1.symm)
            clear hatq HHR
            go_wp2_with fail
            refine hatn.mono ?_
            rintro e w8 ⟨rfl, hb8⟩
            have b18 := HBQ.out.trans (hb8.mono HBQ.out.size)
            have bal : Below w8.heap.size w8 (w8.alloc (.cells #[.int .i64 0, .string noT, .bool false] 125)) := (Below.refl _ w8).alloc (Nat.le_refl _) _
            have b19 := b18.trans (bal.mono b18.size)
            have HZ1 := Lib.hid (own_below HHM.out b19)
            have HZ2 := Lib.hid ((b19.block Y (blk_lt HJV.out)).trans HJV.out)
            have HZ3 := Lib.hid (HBW.out.trans (b19.mono HBW.out.size))
            have z4 : Y + 1 ≤ (w8.alloc (.cells #[.int .i64 0, .string noT, .bool false] 125)).heap.size := Nat.le_trans hYs b19.size
            have HZ4 := Lib.hid z4
            clear hatn hb8 b18 bal b19 z4 r1'
            go_wp2
            go_roundw
            case rel => exact ⟨j + 1, H, hlt, by go_num, HNX.out, HZ1.out, HZ2.out, HLO.out, HZ3.out, HZ4.out⟩
            case measure => simp [intOf]; omega
          | some u =>
            have hatn : Calls Try.prog 81 #[.slice lad r.list.length lcap, .int .i64 t] V2 fun e w' => e = .returned (.tuple #[.agg #[.int .i64 u.ts, .string u.val, .bool u.dead], .bool true]) ∧ Below V2.heap.size V2 w' := hatq
            clear hatq
            cases hdd : u.dead with
            | true =>
              rw [hdd] at hatn
              have HNX : Hid (H = (((G.map Gw.r).drop p).take (j + 1)).filterMap (hit t)) := by
                have e1 := HHT.out
                have e2 := HHR.out
                simp only [hitO, hdd, if_true] at e2
                rw [e2, ← HHH.out] at e1
                exact ((List.append_nil H).symm.trans e1.symm)
              clear HHR
              go_wp2_with fail
              refine hatn.mono ?_
              rintro e w8 ⟨rfl, hb8⟩
              have b18 := HBQ.out.trans (hb8.mono HBQ.out.size)
              have bal : Below w8.heap.size w8 (w8.alloc (.cells #[.int .i64 u.ts, .string u.val, .bool true] 125)) := (Below.refl _ w8).alloc (Nat.le_refl _) _
              have b19 := b18.trans (bal.mono b18.size)
              have HZ1 := Lib.hid (own_below HHM.out b19)
              have HZ2 := Lib.hid ((b19.block Y (blk_lt HJV.out)).trans HJV.out)
              have HZ3 := Lib.hid (HBW.out.trans (b19.mono HBW.out.size))
              have z4 : Y + 1 ≤ (w8.alloc (.cells #[.int .i64 u.ts, .string u.val, .bool true] 125)).heap.size := Nat.le_trans hYs b19.size
              have HZ4 := Lib.hid z4
              clear hatn hb8 b18 bal b19 z4 r1' hdd
              go_wp2
              go_roundw
              case rel => exact ⟨j + 1, H, hlt, by go_num, HNX.out, HZ1.out, HZ2.out, HLO.out, HZ3.out, HZ4.out⟩
              case measure => simp [intOf]; omega
            | false =>
              rw [hdd] at hatn
              have HNX : Hid (H ++ [⟨r.key, u.ts, u.val⟩] = (((G.map Gw.r).drop p).take (j + 1)).filterMap (hit t)) := by
                have e1 := HHT.out
                have e2 := HHR.out
                simp only [hitO, hdd, Bool.false_eq_true, if_false] at e2
                rw [e2, ← HHH.out] at e1
                exact e1.symm
              clear HHR
              go_wp2_with fail
              refine hatn.mono ?_
              rintro e w8 ⟨rfl, hb8⟩
              obtain ⟨V3, hV3⟩ : ∃ V3, V3 = w8.alloc (.cells #[.int .i64 u.ts, .string u.val, .bool false] 125) := ⟨_, rfl⟩
              obtain ⟨Z, hZ⟩ : ∃ Z, w8.heap.size = Z := ⟨_, rfl⟩
              have b18 := HBQ.out.trans (hb8.mono HBQ.out.size)
              have bal : Below w8.heap.size w8 V3 := by rw [hV3]; exact (Below.refl _ w8).alloc (Nat.le_refl _) _
              have jZ : V3.heap[Z]? = some (.cells #[.int .i64 u.ts, .string u.val, .bool false] 125 (0, 0)) := by rw [hV3, ← hZ]; exact heap_alloc_new w8 _
              have b19 := b18.trans (bal.mono b18.size)
              have HM3 := Lib.hid (own_below HHM.out b19)
              have hob : ∀ k, (Value.slice oad H.length ocap).ownBlock = some k → Y + 1 ≤ k ∧ k < V.heap.size := HHM.out.lt
              have HOB := Lib.hid (fun k e => (⟨(hob k e).1, Nat.lt_of_lt_of_le (hob k e).2 b19.size⟩ : Y + 1 ≤ k ∧ k < V3.heap.size))
              have hnz : ¬ (Value.slice oad H.length ocap).ownBlock = some Z := fun e => by have z3 := hob Z e; have z4 := b18.size; omega
              have hnq : ¬ (Value.slice oad H.length ocap).ownBlock = some q := fun e => by have z3 := hob q e; have z4 := HYY.out; omega
              have HJ3 := Lib.hid ((b19.block Y (blk_lt HJV.out)).trans HJV.out)
              have HB3 := Lib.hid (HBW.out.trans (b19.mono HBW.out.size))
              have hYV3 : Y + 1 ≤ V3.heap.size := Nat.le_trans hYs b19.size
              have s0 : V3.cell? ⟨q, 0, none⟩ = some (.string r.key) := cell_blk ((b19.block q (blk_lt HHAT.out)).trans HHAT.out) 0
              have m0 : V3.cell? ⟨Z, 0, none⟩ = some (.int .i64 u.ts) := cell_blk jZ 0
              have m1 : V3.cell? ⟨Z, 1, none⟩ = some (.string u.val) := cell_blk jZ 1
              have m2 : V3.cell? ⟨Z, 2, none⟩ = some (.bool false) := cell_blk jZ 2
              have HV3 := Lib.hid hV3
              have HZZ := Lib.hid hZ
              clear hatn hb8 b18 bal b19 r1' hdd hob jZ hV3 hZ
              go_upto_region 9 with fail
              rw [← HV3.out, HZZ.out]
              go_upto_region 10 with fail
              refine wp_region_once 11 (fun d X9 => Fr V3 X9 (fun k => (Value.slice oad H.length ocap).ownBlock = some k) ∧ (d = false → Below V3.heap.size V3 X9)) (fun X9 X' => Below X9.heap.size X9 X') (fun X9 X' => Fr X9 X' (fun k => (Value.slice oad H.length ocap).ownBlock = some k)) [
                fun v _ => v = (.slice oad H.length ocap),
                fun v _ => v = .pointer (some ⟨q, 0, none⟩),
                fun v _ => v = .pointer (some ⟨q, 0, none⟩),
                fun v _ => v = .pointer (some ⟨q, 0, none⟩),
                fun v _ => v = .string r.key,
                fun v _ => v = .pointer (some ⟨Z, 0, none⟩),
                fun v _ => v = .int .i64 u.ts,
                fun v _ => v = .pointer (some ⟨Z, 1, none⟩),
                fun v _ => v = .string u.val,
                fun v _ => v = .agg #[.string r.key, .int .i64 u.ts, .string u.val],
                fun v X9 => ∃ K, v = .slice (some ⟨K, 0, none⟩) 1 1 ∧ V3.heap.size ≤ K ∧ X9.heap[K]? = some (.cells #[.string r.key, .int .i64 u.ts, .string u.val] 80 (0, 0)),
                fun v X9 => ∃ ad9 cap9, v = .slice ad9 (H.length + 1) cap9 ∧ X9.ownsRow (Y + 1) 80 3 v (H ++ [(⟨r.key, u.ts, u.val⟩ : Hi)]).length (hiC (H ++ [(⟨r.key, u.ts, u.val⟩ : Hi)])) ∧ X9.heap[Y]? = some (.cells #[.string x, .string y] 57 (0, 0)) ∧ Below w.heap.size w X9 ∧ Y + 1 ≤ X9.heap.size]
                (fun v X9 => ∃ ad9 cap9, v = .slice ad9 (H.length + 1) cap9 ∧ X9.ownsRow (Y + 1) 80 3 v (H ++ [(⟨r.key, u.ts, u.val⟩ : Hi)]).length (hiC (H ++ [(⟨r.key, u.ts, u.val⟩ : Hi)])) ∧ X9.heap[Y]? = some (.cells #[.string x, .string y] 57 (0, 0)) ∧ Below w.heap.size w X9 ∧ Y + 1 ≤ X9.heap.size) rfl (by kernel_rfl) (by kernel_rfl) (by kernel_rfl) (by kernel_rfl) ?st ?stm ?g0 (by decide) ?os ?la ?en
              case st => exact ⟨fun _ _ _ _ h => h, fun _ _ _ _ h => h, fun _ _ _ _ h => h, fun _ _ _ _ h => h, fun _ _ _ _ h => h, fun _ _ _ _ h => h, fun _ _ _ _ h => h, fun _ _ _ _ h => h, fun _ _ _ _ h => h, fun _ _ _ _ h => h, fun _ _ _ hs ⟨K, e, z1, z2⟩ => ⟨K, e, z1, (hs.block K (blk_lt z2)).trans z2⟩, fun _ _ _ hs ⟨x1, x2, e, z1, z2, z3, z4⟩ => ⟨x1, x2, e, own_below z1 hs, (hs.block Y (blk_lt z2)).trans z2, z3.trans (hs.mono z3.size), Nat.le_trans z4 hs.size⟩, trivial⟩
              case stm => exact ⟨fun _ _ _ _ h => h, fun _ _ _ _ h => h, fun _ _ _ _ h => h, fun _ _ _ _ h => h, fun _ _ _ _ h => h, fun _ _ _ _ h => h, fun _ _ _ _ h => h, fun _ _ _ _ h => h, fun _ _ _ _ h => h, fun _ _ _ _ h => h, fun _ _ _ hs ⟨K, e, z1, z2⟩ => ⟨K, e, z1, (hs.block K (blk_lt z2) (fun e => by have z3 := HOB.out K e; omega)).trans z2⟩, fun _ _ _ _ h => h, trivial⟩
              case g0 => exact ⟨⟨rfl, rfl, rfl, Nat.le_refl _, fun _ _ _ => rfl⟩, fun _ => ⟨rfl, rfl, rfl, Nat.le_refl _, fun _ _ => rfl⟩⟩
              case os =>
                refine ⟨?_, ?_, ?_, ?_, ?_, ?_, ?_, ?_, ?_, ?_, ?_, ?_, trivial⟩
                · exact ⟨rfl, fun _ ρ X9 d hg ho hc hf hr => Runs.val _ (op_move (show ρ (.tmp 7) = (.slice oad H.length ocap) from ho 7 rfl)) ⟨hg, Below.refl _ _, rfl⟩, fun e => absurd e (by decide)⟩
                · exact ⟨rfl, fun _ ρ X9 d hg ho hc hf hr => Runs.val _ (op_move (show ρ (.tmp 9) = .pointer (some ⟨q, 0, none⟩) from ho 9 rfl)) ⟨hg, Below.refl _ _, rfl⟩, fun e => absurd e (by decide)⟩
                · exact ⟨rfl, fun _ ρ X9 d hg ho hc hf hr => Runs.val _ (op_nil (show ρ (.tmp 51) = .pointer (some ⟨q, 0, none⟩) from hr 1 51 rfl rfl)) ⟨hg, Below.refl _ _, rfl⟩, fun e => absurd e (by decide)⟩
                · exact ⟨rfl, fun _ ρ X9 d hg ho hc hf hr => Runs.val _ (op_f129_0 (show ρ (.tmp 52) = .pointer (some ⟨q, 0, none⟩) from hr 2 52 rfl rfl)) ⟨hg, Below.refl _ _, rfl⟩, fun e => absurd e (by decide)⟩
                · exact ⟨rfl, fun _ ρ X9 d hg ho hc hf hr => Runs.val _ (op_load9 (show ρ (.tmp 53) = .pointer (some ⟨q, 0, none⟩) from hr 3 53 rfl rfl) (cell_fr hg.1 hnq s0)) ⟨hg, Below.refl _ _, rfl⟩, fun e => absurd e (by decide)⟩
                · exact ⟨rfl, fun _ ρ X9 d hg ho hc hf hr => Runs.val _ (op_f125_0 (show ρ (.tmp 10) = .pointer (some ⟨Z, 0, none⟩) from ho 10 rfl)) ⟨hg, Below.refl _ _, rfl⟩, fun e => absurd e (by decide)⟩
                · exact ⟨rfl, fun _ ρ X9 d hg ho hc hf hr => Runs.val _ (op_load3 (show ρ (.tmp 55) = .pointer (some ⟨Z, 0, none⟩) from hr 5 55 rfl rfl) (cell_fr hg.1 hnz m0)) ⟨hg, Below.refl _ _, rfl⟩, fun e => absurd e (by decide)⟩
                · exact ⟨rfl, fun _ ρ X9 d hg ho hc hf hr => Runs.val _ (op_f125_1 (show ρ (.tmp 10) = .pointer (some ⟨Z, 0, none⟩) from ho 10 rfl)) ⟨hg, Below.refl _ _, rfl⟩, fun e => absurd e (by decide)⟩
                · exact ⟨rfl, fun _ ρ X9 d hg ho hc hf hr => Runs.val _ (op_load9 (show ρ (.tmp 57) = .pointer (some ⟨Z, 1, none⟩) from hr 7 57 rfl rfl) (cell_fr hg.1 hnz m1)) ⟨hg, Below.refl _ _, rfl⟩, fun e => absurd e (by decide)⟩
                · exact ⟨rfl, fun _ ρ X9 d hg ho hc hf hr => Runs.val _ (op_b80 (show ρ (.tmp 54) = .string r.key from hr 4 54 rfl rfl) (show ρ (.tmp 56) = .int .i64 u.ts from hr 6 56 rfl rfl) (show ρ (.tmp 58) = .string u.val from hr 8 58 rfl rfl)) ⟨hg, Below.refl _ _, rfl⟩, fun e => absurd e (by decide)⟩
                · refine ⟨rfl, fun _ ρ X9 d hg ho hc hf hr => ?_, fun e => absurd e (by decide)⟩
                  have hb7 : Below X9.heap.size X9 (X9.alloc (.cells #[.string r.key, .int .i64 u.ts, .string u.val] 80)) := (Below.refl _ X9).alloc (Nat.le_refl _) _
                  exact Runs.val _ (op_s77 (show ρ (.tmp 59) = .agg #[.string r.key, .int .i64 u.ts, .string u.val] from hr 9 59 rfl rfl)) ⟨⟨hg.1.below hb7, fun z => (hg.2 z).trans (hb7.mono (hg.2 z).size)⟩, hb7, X9.heap.size, rfl, hg.1.size, heap_alloc_new X9 _⟩
                · refine ⟨rfl, fun e => absurd rfl e, fun _ ρ X9 hg ho hc hf hr => ?_⟩
                  obtain ⟨K, e, z1, z2⟩ : ∃ K, ρ (.tmp 60) = .slice (some ⟨K, 0, none⟩) 1 1 ∧ V3.heap.size ≤ K ∧ X9.heap[K]? = some (.cells #[.string r.key, .int .i64 u.ts, .string u.val] 80 (0, 0)) := hr 10 60 rfl rfl
                  have hbX := hg.2 rfl
                  have hzX := hbX.size
                  obtain ⟨ad9, cap9, w9, hrun, hR9, hf9⟩ := hits_snoc (x := ⟨r.key, u.ts, u.val⟩) (own_below HM3.out hbX) (by omega) z2 (by omega)
                  have hB9 : Below w.heap.size w w9 := (HB3.out.trans (hbX.mono HB3.out.size)).trans (hf9.toBelow (fun k hk e => by have z3 := HOB.out k e; have z4 := HYY.out; omega) (by have := HB3.out.size; omega))
                  have jY9 : w9.heap[Y]? = _ := (hf9.block Y (by have := blk_lt HJ3.out; omega) (fun e => by have z3 := HOB.out Y e; omega)).trans ((hbX.block Y (blk_lt HJ3.out)).trans HJ3.out)
                  exact Runs.val _ (op_append77 (show ρ (.tmp 50) = (.slice oad H.length ocap) from hr 0 50 rfl rfl) e hrun) ⟨⟨hg.1.trans hf9, fun z => by cases z⟩, hf9, ad9, cap9, rfl, hR9, jY9, hB9, blk_lt jY9⟩
              case la =>
                refine ⟨rfl, fun ρ X9 hg ho hc hf hr => ?_⟩
                obtain ⟨ad9, cap9, e, z1, z2, z3, z4⟩ : ∃ ad9 cap9, (ρ (.tmp 61)) = .slice ad9 (H.length + 1) cap9 ∧ X9.ownsRow (Y + 1) 80 3 (ρ (.tmp 61)) (H ++ [(⟨r.key, u.ts, u.val⟩ : Hi)]).length (hiC (H ++ [(⟨r.key, u.ts, u.val⟩ : Hi)])) ∧ X9.heap[Y]? = some (.cells #[.string x, .string y] 57 (0, 0)) ∧ Below w.heap.size w X9 ∧ Y + 1 ≤ X9.heap.size := hr 11 61 (by decide) rfl
                rw [e] at z1
                exact Runs.val _ (op_assign e) ⟨ad9, cap9, rfl, z1, z2, z3, z4⟩
              case en =>
                intro a X9 Xb v hF hs hd ho hv hr
                obtain ⟨x9, hx, hxt⟩ := act_put hs hd ho
                have x7 : x9 7 = v := (hxt 7).symm.trans (hv 7 rfl)
                change a = putAll _ x9 [50, 51, 52, 53, 54, 55, 56, 57, 58, 59, 60, 61, 7] at hx
                simp only [putAll, Act.put, List.setIfInBounds_toArray, List.set_cons_zero, List.set_cons_succ, x7] at hx
                have HG := Lib.hid hF
                clear hF hs hd ho hr hv hxt x7
                subst hx
                obtain ⟨ad9, cap9, rfl, z1, z2, z3, z4⟩ := HG.out
                have HZ1 := Lib.hid z1
                have HZ2 := Lib.hid z2
                have HZ3 := Lib.hid z3
                clear z1 z2 z3 HG
                go_wp2
                go_roundw
                case rel => exact ⟨j + 1, H ++ [⟨r.key, u.ts, u.val⟩], hlt, by go_num, HNX.out, HZ1.out, HZ2.out, HLO.out, HZ3.out, z4⟩
                case measure => simp [intOf]; omega
        · have hdk : (!Op.bytesLess r.key.toList y.toList) = true := by rw [HLE.out, decide_eq_false hky2]; rfl
          have hsp : span (G.map Gw.r) x y t = H := by
            rw [hH]
            refine span_stop HH.out.ok.sorted HP.out hlo (fun h => ?_)
            rw [hky (p + j) h rfl]
            exact hky2
          have HA : Hid (∀ m, SpanAns w (span (G.map Gw.r) x y t) (.returned (.slice oad H.length ocap)) (V.drewN m)) := by
            intro m
            rw [hsp]
            exact ⟨oad, ocap, rfl, own_below hhm0 (below_draw (Below.refl _ V) m), below_draw hbw m⟩
          clear hz hle hv hat hls hlo hHm hhm0 hht hbw hjY hky hri hsp hH e1 hlS hqS hll
          go_wp2
          go_quiet (fail)
          go_wp2
          go_ret
          exact HA.out _
      · have j1 : ¬ (j : Int) < (n : Int) := by omega
        have hsp : span (G.map Gw.r) x y t = H := by
          rw [hH]
          refine span_stop HH.out.ok.sorted HP.out hlo (fun h => ?_)
          rw [List.length_map] at h
          have := HN.out
          omega
        have HA : Hid (SpanAns w (span (G.map Gw.r) x y t) (.returned (.slice oad H.length ocap)) V) := by rw [hsp]; exact ⟨oad, ocap, rfl, hhm0, hbw⟩
        clear hsp hhm0 hHm hlo hbw hjY hH y1
        go_wp2
        go_ret
        exact HA.out
end
end Go.Proofs.Ytcoaahlakkghhaa
