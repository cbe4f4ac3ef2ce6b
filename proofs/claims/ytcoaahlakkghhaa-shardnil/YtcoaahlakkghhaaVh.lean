/- append at each kind of row; single operations; the walk of slices.Clone at versions. -/
import Derived.Test.YtcoaahlakkghhaaVg
import Derived.Test.YtcoaahlakkghhaaVZ
namespace Go.Proofs.Ytcoaahlakkghhaa
open Go.RowKit

theorem info_parts {e : TypeId} {z : Option Value} {s b : Nat} (h : (Try.prog.info? e).map (fun i => (i.zero, i.size, i.bytes)) = some (z, s, b)) : ∃ i, Try.prog.info? e = some i ∧ i.zero = z ∧ i.size = s ∧ i.bytes = b := by
  cases hq : Try.prog.info? e with
  | none => rw [hq] at h; cases h
  | some i =>
    rw [hq] at h
    simp only [Option.map_some, Option.some.injEq, Prod.mk.injEq] at h
    exact ⟨i, rfl, h.1, h.2.1, h.2.2⟩
theorem info_ve : (Try.prog.info? 125).map (fun i => (i.zero, i.size, i.bytes)) = some (some (.agg #[.int .i64 0, .string ⟨#[]⟩, .bool false]), 3, 32) := by kernel_rfl
theorem info_hi : (Try.prog.info? 80).map (fun i => (i.zero, i.size, i.bytes)) = some (some (.agg #[.string ⟨#[]⟩, .int .i64 0, .string ⟨#[]⟩]), 3, 40) := by kernel_rfl
theorem info_rw : (Try.prog.info? 129).map (fun i => (i.zero, i.size, i.bytes)) = some (some (.agg #[.string ⟨#[]⟩, .slice none 0 0]), 2, 40) := by kernel_rfl
theorem info_pt : (Try.prog.info? 126).map (fun i => (i.zero, i.size, i.bytes)) = some (some (.pointer none), 1, 8) := by kernel_rfl
theorem info_st : (Try.prog.info? 9).map (fun i => (i.zero, i.size, i.bytes)) = some (some (.string ⟨#[]⟩), 1, 16) := by kernel_rfl
theorem info_on : (Try.prog.info? 144).map (fun i => (i.zero, i.size, i.bytes)) = some (some (.agg #[.string ⟨#[]⟩, .int .i64 0, .string ⟨#[]⟩, .bool false]), 4, 48) := by kernel_rfl
section
variable {w w' : World} {v : Value}
theorem run_ve {base n m c : Nat} {xs news : List Value} {ad : Option Addr} (ho : w.ownsRow base 125 3 v n xs) (hb : base ≤ w.heap.size) (hs : (ad = none ∧ m = 0 ∧ c = 0 ∧ news = []) ∨ ∃ a, ad = some a ∧ news.length = m * 3 ∧ (∀ j u, news[j]? = some u → w.cell? (a.add j) = some u))
    (h1 : ∀ u ∈ news, u.oneCell' = true) (hnm : (n + m) * 32 ≤ 140737488355328) : ∃ ad' cap' w', (Builtin.append_ #[127, 127] 127 #[v, .slice ad m c]).run Try.prog w = .ok (.slice ad' (n + m) cap') w' ∧ w'.ownsRow base 125 3 (.slice ad' (n + m) cap') (n + m) (xs ++ news) ∧ w.grownBy w' v.ownBlock ∧ ((Value.slice ad' (n + m) cap').ownBlock = v.ownBlock ∨ (Value.slice ad' (n + m) cap').ownBlock = some w.heap.size) := by
  obtain ⟨i0, hi, hz0, hz1, hz2⟩ := info_parts info_ve
  rcases hs with ⟨rfl, rfl, rfl, rfl⟩ | ⟨a, rfl, hl, hc⟩
  · obtain ⟨ad', cap', rfl⟩ := own_shape ho
    refine ⟨ad', cap', w, ?_, by simpa using ho, ⟨rfl, rfl, rfl, Nat.le_refl _, fun _ _ _ => rfl⟩, .inl rfl⟩
    exact run_append_owned_none (P := Try.prog) (w := w) base 127 127 125 i0 3 Try.underlying127 hi _ n xs ho
  · obtain ⟨v', w', hr, ho', hg, _, hat⟩ := run_append_own_at (P := Try.prog) (w := w) base 127 127 125 i0 _ 3 32 Try.underlying127 hi hz0 hz1 hz2 rfl (by decide) v n xs ho a m c news hl hc h1 (by unfold maxLen; omega) hnm hb
    obtain ⟨ad', cap', rfl⟩ := own_shape ho'
    exact ⟨ad', cap', w', hr, ho', hg, hat⟩
theorem run_hi {base n m c : Nat} {xs news : List Value} {ad : Option Addr} (ho : w.ownsRow base 80 3 v n xs) (hb : base ≤ w.heap.size) (hs : (ad = none ∧ m = 0 ∧ c = 0 ∧ news = []) ∨ ∃ a, ad = some a ∧ news.length = m * 3 ∧ (∀ j u, news[j]? = some u → w.cell? (a.add j) = some u))
    (h1 : ∀ u ∈ news, u.oneCell' = true) (hnm : (n + m) * 40 ≤ 140737488355328) : ∃ ad' cap' w', (Builtin.append_ #[77, 77] 77 #[v, .slice ad m c]).run Try.prog w = .ok (.slice ad' (n + m) cap') w' ∧ w'.ownsRow base 80 3 (.slice ad' (n + m) cap') (n + m) (xs ++ news) ∧ w.grownBy w' v.ownBlock ∧ ((Value.slice ad' (n + m) cap').ownBlock = v.ownBlock ∨ (Value.slice ad' (n + m) cap').ownBlock = some w.heap.size) := by
  obtain ⟨i0, hi, hz0, hz1, hz2⟩ := info_parts info_hi
  rcases hs with ⟨rfl, rfl, rfl, rfl⟩ | ⟨a, rfl, hl, hc⟩
  · obtain ⟨ad', cap', rfl⟩ := own_shape ho
    refine ⟨ad', cap', w, ?_, by simpa using ho, ⟨rfl, rfl, rfl, Nat.le_refl _, fun _ _ _ => rfl⟩, .inl rfl⟩
    exact run_append_owned_none (P := Try.prog) (w := w) base 77 77 80 i0 3 Try.underlying77 hi _ n xs ho
  · obtain ⟨v', w', hr, ho', hg, _, hat⟩ := run_append_own_at (P := Try.prog) (w := w) base 77 77 80 i0 _ 3 40 Try.underlying77 hi hz0 hz1 hz2 rfl (by decide) v n xs ho a m c news hl hc h1 (by unfold maxLen; omega) hnm hb
    obtain ⟨ad', cap', rfl⟩ := own_shape ho'
    exact ⟨ad', cap', w', hr, ho', hg, hat⟩
theorem run_rw {base n m c : Nat} {xs news : List Value} {ad : Option Addr} (ho : w.ownsRow base 129 2 v n xs) (hb : base ≤ w.heap.size) (hs : (ad = none ∧ m = 0 ∧ c = 0 ∧ news = []) ∨ ∃ a, ad = some a ∧ news.length = m * 2 ∧ (∀ j u, news[j]? = some u → w.cell? (a.add j) = some u))
    (h1 : ∀ u ∈ news, u.oneCell' = true) (hnm : (n + m) * 40 ≤ 140737488355328) : ∃ ad' cap' w', (Builtin.append_ #[61, 61] 61 #[v, .slice ad m c]).run Try.prog w = .ok (.slice ad' (n + m) cap') w' ∧ w'.ownsRow base 129 2 (.slice ad' (n + m) cap') (n + m) (xs ++ news) ∧ w.grownBy w' v.ownBlock ∧ ((Value.slice ad' (n + m) cap').ownBlock = v.ownBlock ∨ (Value.slice ad' (n + m) cap').ownBlock = some w.heap.size) := by
  obtain ⟨i0, hi, hz0, hz1, hz2⟩ := info_parts info_rw
  rcases hs with ⟨rfl, rfl, rfl, rfl⟩ | ⟨a, rfl, hl, hc⟩
  · obtain ⟨ad', cap', rfl⟩ := own_shape ho
    refine ⟨ad', cap', w, ?_, by simpa using ho, ⟨rfl, rfl, rfl, Nat.le_refl _, fun _ _ _ => rfl⟩, .inl rfl⟩
    exact run_append_owned_none (P := Try.prog) (w := w) base 61 61 129 i0 2 Try.underlying61 hi _ n xs ho
  · obtain ⟨v', w', hr, ho', hg, _, hat⟩ := run_append_own_at (P := Try.prog) (w := w) base 61 61 129 i0 _ 2 40 Try.underlying61 hi hz0 hz1 hz2 rfl (by decide) v n xs ho a m c news hl hc h1 (by unfold maxLen; omega) hnm hb
    obtain ⟨ad', cap', rfl⟩ := own_shape ho'
    exact ⟨ad', cap', w', hr, ho', hg, hat⟩
theorem run_pt {base n m c : Nat} {xs news : List Value} {ad : Option Addr} (ho : w.ownsRow base 126 1 v n xs) (hb : base ≤ w.heap.size) (hs : (ad = none ∧ m = 0 ∧ c = 0 ∧ news = []) ∨ ∃ a, ad = some a ∧ news.length = m * 1 ∧ (∀ j u, news[j]? = some u → w.cell? (a.add j) = some u))
    (h1 : ∀ u ∈ news, u.oneCell' = true) (hnm : (n + m) * 8 ≤ 140737488355328) : ∃ ad' cap' w', (Builtin.append_ #[114, 114] 114 #[v, .slice ad m c]).run Try.prog w = .ok (.slice ad' (n + m) cap') w' ∧ w'.ownsRow base 126 1 (.slice ad' (n + m) cap') (n + m) (xs ++ news) ∧ w.grownBy w' v.ownBlock ∧ ((Value.slice ad' (n + m) cap').ownBlock = v.ownBlock ∨ (Value.slice ad' (n + m) cap').ownBlock = some w.heap.size) := by
  obtain ⟨i0, hi, hz0, hz1, hz2⟩ := info_parts info_pt
  rcases hs with ⟨rfl, rfl, rfl, rfl⟩ | ⟨a, rfl, hl, hc⟩
  · obtain ⟨ad', cap', rfl⟩ := own_shape ho
    refine ⟨ad', cap', w, ?_, by simpa using ho, ⟨rfl, rfl, rfl, Nat.le_refl _, fun _ _ _ => rfl⟩, .inl rfl⟩
    exact run_append_owned_none (P := Try.prog) (w := w) base 114 114 126 i0 1 Try.underlying114 hi _ n xs ho
  · obtain ⟨v', w', hr, ho', hg, _, hat⟩ := run_append_own_at (P := Try.prog) (w := w) base 114 114 126 i0 _ 1 8 Try.underlying114 hi hz0 hz1 hz2 rfl (by decide) v n xs ho a m c news hl hc h1 (by unfold maxLen; omega) hnm hb
    obtain ⟨ad', cap', rfl⟩ := own_shape ho'
    exact ⟨ad', cap', w', hr, ho', hg, hat⟩
theorem run_st {base n m c : Nat} {xs news : List Value} {ad : Option Addr} (ho : w.ownsRow base 9 1 v n xs) (hb : base ≤ w.heap.size) (hs : (ad = none ∧ m = 0 ∧ c = 0 ∧ news = []) ∨ ∃ a, ad = some a ∧ news.length = m * 1 ∧ (∀ j u, news[j]? = some u → w.cell? (a.add j) = some u))
    (h1 : ∀ u ∈ news, u.oneCell' = true) (hnm : (n + m) * 16 ≤ 140737488355328) : ∃ ad' cap' w', (Builtin.append_ #[141, 141] 141 #[v, .slice ad m c]).run Try.prog w = .ok (.slice ad' (n + m) cap') w' ∧ w'.ownsRow base 9 1 (.slice ad' (n + m) cap') (n + m) (xs ++ news) ∧ w.grownBy w' v.ownBlock ∧ ((Value.slice ad' (n + m) cap').ownBlock = v.ownBlock ∨ (Value.slice ad' (n + m) cap').ownBlock = some w.heap.size) := by
  obtain ⟨i0, hi, hz0, hz1, hz2⟩ := info_parts info_st
  rcases hs with ⟨rfl, rfl, rfl, rfl⟩ | ⟨a, rfl, hl, hc⟩
  · obtain ⟨ad', cap', rfl⟩ := own_shape ho
    refine ⟨ad', cap', w, ?_, by simpa using ho, ⟨rfl, rfl, rfl, Nat.le_refl _, fun _ _ _ => rfl⟩, .inl rfl⟩
    exact run_append_owned_none (P := Try.prog) (w := w) base 141 141 9 i0 1 Try.underlying141 hi _ n xs ho
  · obtain ⟨v', w', hr, ho', hg, _, hat⟩ := run_append_own_at (P := Try.prog) (w := w) base 141 141 9 i0 _ 1 16 Try.underlying141 hi hz0 hz1 hz2 rfl (by decide) v n xs ho a m c news hl hc h1 (by unfold maxLen; omega) hnm hb
    obtain ⟨ad', cap', rfl⟩ := own_shape ho'
    exact ⟨ad', cap', w', hr, ho', hg, hat⟩
theorem run_on {base n m c : Nat} {xs news : List Value} {ad : Option Addr} (ho : w.ownsRow base 144 4 v n xs) (hb : base ≤ w.heap.size) (hs : (ad = none ∧ m = 0 ∧ c = 0 ∧ news = []) ∨ ∃ a, ad = some a ∧ news.length = m * 4 ∧ (∀ j u, news[j]? = some u → w.cell? (a.add j) = some u))
    (h1 : ∀ u ∈ news, u.oneCell' = true) (hnm : (n + m) * 48 ≤ 140737488355328) : ∃ ad' cap' w', (Builtin.append_ #[28, 28] 28 #[v, .slice ad m c]).run Try.prog w = .ok (.slice ad' (n + m) cap') w' ∧ w'.ownsRow base 144 4 (.slice ad' (n + m) cap') (n + m) (xs ++ news) ∧ w.grownBy w' v.ownBlock ∧ ((Value.slice ad' (n + m) cap').ownBlock = v.ownBlock ∨ (Value.slice ad' (n + m) cap').ownBlock = some w.heap.size) := by
  obtain ⟨i0, hi, hz0, hz1, hz2⟩ := info_parts info_on
  rcases hs with ⟨rfl, rfl, rfl, rfl⟩ | ⟨a, rfl, hl, hc⟩
  · obtain ⟨ad', cap', rfl⟩ := own_shape ho
    refine ⟨ad', cap', w, ?_, by simpa using ho, ⟨rfl, rfl, rfl, Nat.le_refl _, fun _ _ _ => rfl⟩, .inl rfl⟩
    exact run_append_owned_none (P := Try.prog) (w := w) base 28 28 144 i0 4 Try.underlying28 hi _ n xs ho
  · obtain ⟨v', w', hr, ho', hg, _, hat⟩ := run_append_own_at (P := Try.prog) (w := w) base 28 28 144 i0 _ 4 48 Try.underlying28 hi hz0 hz1 hz2 rfl (by decide) v n xs ho a m c news hl hc h1 (by unfold maxLen; omega) hnm hb
    obtain ⟨ad', cap', rfl⟩ := own_shape ho'
    exact ⟨ad', cap', w', hr, ho', hg, hat⟩
end
section
variable {ρ : Operand → Value} {X : World} {d : Option Tmp} {ty : TypeId} {ps : String} {af : Array Edge} {g : Option (Nat × Bool)}
theorem op_move {x : Operand} {v : Value} (e : ρ x = v) : (execOp ρ ⟨d, .move x, ty, ps, af, g⟩).run Try.prog X = .ok (.value v) X := by
  simp only [execOp, e]
  rfl
theorem op_assign {x : Operand} {v : Value} (e : ρ x = v) : (execOp ρ ⟨d, .assign x, ty, ps, af, g⟩).run Try.prog X = .ok (.value v) X := by
  simp only [execOp, e]
  rfl
theorem op_nil {x : Operand} {a : Addr} (e : ρ x = .pointer (some a)) : (execOp ρ ⟨d, .nilCheck x, ty, ps, af, g⟩).run Try.prog X = .ok (.value (.pointer (some a))) X := by
  simp only [execOp, e]
  rfl
theorem op_load3 {x : Operand} {B i : Nat} {n : Int} (e : ρ x = .pointer (some ⟨B, i, none⟩)) (y : X.cell? ⟨B, i, none⟩ = some (.int .i64 n)) : (execOp ρ ⟨d, .load 3 x, ty, ps, af, g⟩).run Try.prog X = .ok (.value (.int .i64 n)) X := by
  simp only [execOp, e]
  go_simp
theorem op_load9 {x : Operand} {B i : Nat} {n : ByteArray} (e : ρ x = .pointer (some ⟨B, i, none⟩)) (y : X.cell? ⟨B, i, none⟩ = some (.string n)) : (execOp ρ ⟨d, .load 9 x, ty, ps, af, g⟩).run Try.prog X = .ok (.value (.string n)) X := by
  simp only [execOp, e]
  go_simp
theorem op_load126 {x : Operand} {B i : Nat} {n : Option Addr} (e : ρ x = .pointer (some ⟨B, i, none⟩)) (y : X.cell? ⟨B, i, none⟩ = some (.pointer n)) : (execOp ρ ⟨d, .load 126 x, ty, ps, af, g⟩).run Try.prog X = .ok (.value (.pointer n)) X := by
  simp only [execOp, e]
  go_simp
theorem op_load127 {x : Operand} {B i : Nat} {a : Option Addr} {n m : Nat} (e : ρ x = .pointer (some ⟨B, i, none⟩)) (y : X.cell? ⟨B, i, none⟩ = some (.slice a n m)) : (execOp ρ ⟨d, .load 127 x, ty, ps, af, g⟩).run Try.prog X = .ok (.value (.slice a n m)) X := by
  simp only [execOp, e]
  go_simp
theorem op_load114 {x : Operand} {B i : Nat} {a : Option Addr} {n m : Nat} (e : ρ x = .pointer (some ⟨B, i, none⟩)) (y : X.cell? ⟨B, i, none⟩ = some (.slice a n m)) : (execOp ρ ⟨d, .load 114 x, ty, ps, af, g⟩).run Try.prog X = .ok (.value (.slice a n m)) X := by
  simp only [execOp, e]
  go_simp
theorem op_load61 {x : Operand} {B i : Nat} {a : Option Addr} {n m : Nat} (e : ρ x = .pointer (some ⟨B, i, none⟩)) (y : X.cell? ⟨B, i, none⟩ = some (.slice a n m)) : (execOp ρ ⟨d, .load 61 x, ty, ps, af, g⟩).run Try.prog X = .ok (.value (.slice a n m)) X := by
  simp only [execOp, e]
  go_simp
theorem op_load77 {x : Operand} {B i : Nat} {a : Option Addr} {n m : Nat} (e : ρ x = .pointer (some ⟨B, i, none⟩)) (y : X.cell? ⟨B, i, none⟩ = some (.slice a n m)) : (execOp ρ ⟨d, .load 77 x, ty, ps, af, g⟩).run Try.prog X = .ok (.value (.slice a n m)) X := by
  simp only [execOp, e]
  go_simp
theorem op_load28 {x : Operand} {B i : Nat} {a : Option Addr} {n m : Nat} (e : ρ x = .pointer (some ⟨B, i, none⟩)) (y : X.cell? ⟨B, i, none⟩ = some (.slice a n m)) : (execOp ρ ⟨d, .load 28 x, ty, ps, af, g⟩).run Try.prog X = .ok (.value (.slice a n m)) X := by
  simp only [execOp, e]
  go_simp
theorem op_load141 {x : Operand} {B i : Nat} {a : Option Addr} {n m : Nat} (e : ρ x = .pointer (some ⟨B, i, none⟩)) (y : X.cell? ⟨B, i, none⟩ = some (.slice a n m)) : (execOp ρ ⟨d, .load 141 x, ty, ps, af, g⟩).run Try.prog X = .ok (.value (.slice a n m)) X := by
  simp only [execOp, e]
  go_simp
theorem op_load125 {x : Operand} {B i : Nat} {t : Int} {s : ByteArray} {q : Bool} (e : ρ x = .pointer (some ⟨B, i, none⟩)) (y0 : X.cell? ⟨B, i, none⟩ = some (.int .i64 t)) (y1 : X.cell? ⟨B, i + 1, none⟩ = some (.string s)) (y2 : X.cell? ⟨B, i + 2, none⟩ = some (.bool q)) : (execOp ρ ⟨d, .load 125 x, ty, ps, af, g⟩).run Try.prog X = .ok (.value (.agg #[.int .i64 t, .string s, .bool q])) X := by
  simp only [execOp, e]
  go_simp
theorem op_f116_0 {x : Operand} {B o : Nat} (e : ρ x = .pointer (some ⟨B, o, none⟩)) : (execOp ρ ⟨d, .fieldAddr 116 x 0, ty, ps, af, g⟩).run Try.prog X = .ok (.value (.pointer (some ⟨B, o, none⟩))) X := by
  simp only [execOp, e]
  go_simp
theorem op_f129_0 {x : Operand} {B o : Nat} (e : ρ x = .pointer (some ⟨B, o, none⟩)) : (execOp ρ ⟨d, .fieldAddr 129 x 0, ty, ps, af, g⟩).run Try.prog X = .ok (.value (.pointer (some ⟨B, o, none⟩))) X := by
  simp only [execOp, e]
  go_simp
theorem op_f129_1 {x : Operand} {B o : Nat} (e : ρ x = .pointer (some ⟨B, o, none⟩)) : (execOp ρ ⟨d, .fieldAddr 129 x 1, ty, ps, af, g⟩).run Try.prog X = .ok (.value (.pointer (some ⟨B, o + 1, none⟩))) X := by
  simp only [execOp, e]
  go_simp
theorem op_f125_0 {x : Operand} {B o : Nat} (e : ρ x = .pointer (some ⟨B, o, none⟩)) : (execOp ρ ⟨d, .fieldAddr 125 x 0, ty, ps, af, g⟩).run Try.prog X = .ok (.value (.pointer (some ⟨B, o, none⟩))) X := by
  simp only [execOp, e]
  go_simp
theorem op_f125_1 {x : Operand} {B o : Nat} (e : ρ x = .pointer (some ⟨B, o, none⟩)) : (execOp ρ ⟨d, .fieldAddr 125 x 1, ty, ps, af, g⟩).run Try.prog X = .ok (.value (.pointer (some ⟨B, o + 1, none⟩))) X := by
  simp only [execOp, e]
  go_simp
theorem op_f125_2 {x : Operand} {B o : Nat} (e : ρ x = .pointer (some ⟨B, o, none⟩)) : (execOp ρ ⟨d, .fieldAddr 125 x 2, ty, ps, af, g⟩).run Try.prog X = .ok (.value (.pointer (some ⟨B, o + 2, none⟩))) X := by
  simp only [execOp, e]
  go_simp
theorem op_f30_0 {x : Operand} {B o : Nat} (e : ρ x = .pointer (some ⟨B, o, none⟩)) : (execOp ρ ⟨d, .fieldAddr 30 x 0, ty, ps, af, g⟩).run Try.prog X = .ok (.value (.pointer (some ⟨B, o, none⟩))) X := by
  simp only [execOp, e]
  go_simp
theorem op_b129 {x y : Operand} {s : ByteArray} {a : Option Addr} {n m : Nat} (e : ρ x = .string s) (e2 : ρ y = .slice a n m) : (execOp ρ ⟨d, .build 129 #[(0, x), (1, y)], ty, ps, af, g⟩).run Try.prog X = .ok (.value (.agg #[.string s, .slice a n m])) X := by
  simp only [execOp]
  simp [e, e2]
  go_simp
theorem op_b80 {x y z : Operand} {s t : ByteArray} {n : Int} (e : ρ x = .string s) (e2 : ρ y = .int .i64 n) (e3 : ρ z = .string t) : (execOp ρ ⟨d, .build 80 #[(0, x), (1, y), (2, z)], ty, ps, af, g⟩).run Try.prog X = .ok (.value (.agg #[.string s, .int .i64 n, .string t])) X := by
  simp only [execOp]
  simp [e, e2, e3]
  go_simp
theorem op_s61 {x : Operand} {s : ByteArray} {a : Option Addr} {n m : Nat} (e : ρ x = .agg #[.string s, .slice a n m]) : (execOp ρ ⟨d, .buildSlice 61 1 #[(0, x)], ty, ps, af, g⟩).run Try.prog X = .ok (.value (.slice (some ⟨X.heap.size, 0, none⟩) 1 1)) (X.alloc (.cells #[.string s, .slice a n m] 129)) := by
  simp only [execOp]
  simp [e]
  go_simp
theorem op_s77 {x : Operand} {s t : ByteArray} {n : Int} (e : ρ x = .agg #[.string s, .int .i64 n, .string t]) : (execOp ρ ⟨d, .buildSlice 77 1 #[(0, x)], ty, ps, af, g⟩).run Try.prog X = .ok (.value (.slice (some ⟨X.heap.size, 0, none⟩) 1 1)) (X.alloc (.cells #[.string s, .int .i64 n, .string t] 80)) := by
  simp only [execOp]
  simp [e]
  go_simp
theorem op_s127 {x : Operand} {t : Int} {s : ByteArray} {q : Bool} (e : ρ x = .agg #[.int .i64 t, .string s, .bool q]) : (execOp ρ ⟨d, .buildSlice 127 1 #[(0, x)], ty, ps, af, g⟩).run Try.prog X = .ok (.value (.slice (some ⟨X.heap.size, 0, none⟩) 1 1)) (X.alloc (.cells #[.int .i64 t, .string s, .bool q] 125)) := by
  simp only [execOp]
  simp [e]
  go_simp
theorem op_s114 {x : Operand} {a : Option Addr} (e : ρ x = .pointer a) : (execOp ρ ⟨d, .buildSlice 114 1 #[(0, x)], ty, ps, af, g⟩).run Try.prog X = .ok (.value (.slice (some ⟨X.heap.size, 0, none⟩) 1 1)) (X.alloc (.cells #[.pointer a] 126)) := by
  simp only [execOp]
  simp [e]
  go_simp
theorem op_x129 {x : Operand} {s : ByteArray} {a : Option Addr} {n m : Nat} (e : ρ x = .agg #[.string s, .slice a n m]) : (execOp ρ ⟨d, .box 129 x, ty, ps, af, g⟩).run Try.prog X = .ok (.value (.pointer (some ⟨X.heap.size, 0, none⟩))) (X.alloc (.cells #[.string s, .slice a n m] 129)) := by
  simp only [execOp]
  simp [e]
  go_simp
theorem op_append127 {s x : Operand} {v1 v2 v' : Value} {X' : World} (hs : ρ s = v1) (hx : ρ x = v2) (hrun : (Builtin.append_ #[127, 127] 127 #[v1, v2]).run Try.prog X = .ok v' X') : (execOp ρ ⟨d, .call { callee := .builtin .append, args := #[s, x], argTypes := #[127, 127] }, 127, ps, af, g⟩).run Try.prog X = .ok (.value v') X' := by
  simp only [execOp, resolve, invoke, builtin, Sem.run_bind, Sem.run_pure, Result.andThen_ok, List.map_toArray, List.map_cons, List.map_nil, hs, hx, hrun]
theorem op_append77 {s x : Operand} {v1 v2 v' : Value} {X' : World} (hs : ρ s = v1) (hx : ρ x = v2) (hrun : (Builtin.append_ #[77, 77] 77 #[v1, v2]).run Try.prog X = .ok v' X') : (execOp ρ ⟨d, .call { callee := .builtin .append, args := #[s, x], argTypes := #[77, 77] }, 77, ps, af, g⟩).run Try.prog X = .ok (.value v') X' := by
  simp only [execOp, resolve, invoke, builtin, Sem.run_bind, Sem.run_pure, Result.andThen_ok, List.map_toArray, List.map_cons, List.map_nil, hs, hx, hrun]
theorem op_append61 {s x : Operand} {v1 v2 v' : Value} {X' : World} (hs : ρ s = v1) (hx : ρ x = v2) (hrun : (Builtin.append_ #[61, 61] 61 #[v1, v2]).run Try.prog X = .ok v' X') : (execOp ρ ⟨d, .call { callee := .builtin .append, args := #[s, x], argTypes := #[61, 61] }, 61, ps, af, g⟩).run Try.prog X = .ok (.value v') X' := by
  simp only [execOp, resolve, invoke, builtin, Sem.run_bind, Sem.run_pure, Result.andThen_ok, List.map_toArray, List.map_cons, List.map_nil, hs, hx, hrun]
theorem op_append114 {s x : Operand} {v1 v2 v' : Value} {X' : World} (hs : ρ s = v1) (hx : ρ x = v2) (hrun : (Builtin.append_ #[114, 114] 114 #[v1, v2]).run Try.prog X = .ok v' X') : (execOp ρ ⟨d, .call { callee := .builtin .append, args := #[s, x], argTypes := #[114, 114] }, 114, ps, af, g⟩).run Try.prog X = .ok (.value v') X' := by
  simp only [execOp, resolve, invoke, builtin, Sem.run_bind, Sem.run_pure, Result.andThen_ok, List.map_toArray, List.map_cons, List.map_nil, hs, hx, hrun]
theorem op_append141 {s x : Operand} {v1 v2 v' : Value} {X' : World} (hs : ρ s = v1) (hx : ρ x = v2) (hrun : (Builtin.append_ #[141, 141] 141 #[v1, v2]).run Try.prog X = .ok v' X') : (execOp ρ ⟨d, .call { callee := .builtin .append, args := #[s, x], argTypes := #[141, 141] }, 141, ps, af, g⟩).run Try.prog X = .ok (.value v') X' := by
  simp only [execOp, resolve, invoke, builtin, Sem.run_bind, Sem.run_pure, Result.andThen_ok, List.map_toArray, List.map_cons, List.map_nil, hs, hx, hrun]
theorem op_append28 {s x : Operand} {v1 v2 v' : Value} {X' : World} (hs : ρ s = v1) (hx : ρ x = v2) (hrun : (Builtin.append_ #[28, 28] 28 #[v1, v2]).run Try.prog X = .ok v' X') : (execOp ρ ⟨d, .call { callee := .builtin .append, args := #[s, x], argTypes := #[28, 28] }, 28, ps, af, g⟩).run Try.prog X = .ok (.value v') X' := by
  simp only [execOp, resolve, invoke, builtin, Sem.run_bind, Sem.run_pure, Result.andThen_ok, List.map_toArray, List.map_cons, List.map_nil, hs, hx, hrun]
theorem op_store114 {x y : Operand} {B i : Nat} {a : Option Addr} {n m : Nat} {u : Value} (e : ρ x = .pointer (some ⟨B, i, none⟩)) (e2 : ρ y = .slice a n m) (c : X.cell? ⟨B, i, none⟩ = some u) (z : X.frozen? ⟨B, i, none⟩ = false) : (execOp ρ ⟨d, .store 114 x y, ty, ps, af, g⟩).run Try.prog X = .ok .skip (X.setCell ⟨B, i, none⟩ (.slice a n m)) := by
  simp only [execOp, e, e2]
  go_simp
theorem op_store127 {x y : Operand} {B i : Nat} {a : Option Addr} {n m : Nat} {u : Value} (e : ρ x = .pointer (some ⟨B, i, none⟩)) (e2 : ρ y = .slice a n m) (c : X.cell? ⟨B, i, none⟩ = some u) (z : X.frozen? ⟨B, i, none⟩ = false) : (execOp ρ ⟨d, .store 127 x y, ty, ps, af, g⟩).run Try.prog X = .ok .skip (X.setCell ⟨B, i, none⟩ (.slice a n m)) := by
  simp only [execOp, e, e2]
  go_simp
theorem op_store28 {x y : Operand} {B i : Nat} {a : Option Addr} {n m : Nat} {u : Value} (e : ρ x = .pointer (some ⟨B, i, none⟩)) (e2 : ρ y = .slice a n m) (c : X.cell? ⟨B, i, none⟩ = some u) (z : X.frozen? ⟨B, i, none⟩ = false) : (execOp ρ ⟨d, .store 28 x y, ty, ps, af, g⟩).run Try.prog X = .ok .skip (X.setCell ⟨B, i, none⟩ (.slice a n m)) := by
  simp only [execOp, e, e2]
  go_simp
theorem op_call1 {f : FuncId} {x0 : Operand} {v0 : Value} {at' : Array TypeId} (hf : ∀ f, ρ (.func f) = .func (.func f) #[] #[]) (hc : Sem.run Try.prog (callFunc f #[v0]) X = .ok (.enter f #[v0]) X) (e0 : ρ x0 = v0) : (execOp ρ ⟨d, .call { callee := .value (.func f), args := #[x0], argTypes := at' }, ty, ps, af, g⟩).run Try.prog X = .ok (.enter f #[v0]) X := by
  simp only [execOp]
  simp [resolve, hf, e0, Deferred.ofValue, invoke, hc]
theorem op_call3 {f : FuncId} {x0 x1 x2 : Operand} {v0 v1 v2 : Value} {at' : Array TypeId} (hf : ∀ f, ρ (.func f) = .func (.func f) #[] #[]) (hc : Sem.run Try.prog (callFunc f #[v0, v1, v2]) X = .ok (.enter f #[v0, v1, v2]) X) (e0 : ρ x0 = v0) (e1 : ρ x1 = v1) (e2 : ρ x2 = v2) : (execOp ρ ⟨d, .call { callee := .value (.func f), args := #[x0, x1, x2], argTypes := at' }, ty, ps, af, g⟩).run Try.prog X = .ok (.enter f #[v0, v1, v2]) X := by
  simp only [execOp]
  simp [resolve, hf, e0, e1, e2, Deferred.ofValue, invoke, hc]
theorem call61 {v : Value} : Sem.run Try.prog (callFunc 61 #[v]) X = .ok (.enter 61 #[v]) X := by go_simp
theorem call108 {v u x : Value} : Sem.run Try.prog (callFunc 108 #[v, u, x]) X = .ok (.enter 108 #[v, u, x]) X := by go_simp
end
section
variable {w w' W V : World} {A : Nat} {S T : Nat → Prop}
theorem cell_on {X : World} {a : Addr} {u : Value} (h : Below V.heap.size V X) (y : V.cell? a = some u) : X.cell? a = some u := by
  have hl : a.block < V.heap.size := by
    refine Classical.byContradiction fun q => ?_
    unfold World.cell? at y
    rw [Array.getElem?_eq_none (by omega)] at y
    simp at y
  unfold World.cell? at y ⊢
  rw [h.block _ hl]
  exact y
/-- Versions that v leads to, wherever they lie. -/
def Vs (w : World) (l : List Ve) (v : Value) : Prop := ∃ ad cap, v = .slice ad l.length cap ∧ (ad = none → cap = 0) ∧ l.length ≤ cap ∧ cap ≤ maxLen ∧
  ∀ i (h : i < l.length), ∃ b o, ad = some ⟨b, o, none⟩ ∧ b < w.heap.size ∧ w.cell? ⟨b, o + i * 3, none⟩ = some (.int .i64 l[i].ts) ∧ w.cell? ⟨b, o + i * 3 + 1, none⟩ = some (.string l[i].val) ∧ w.cell? ⟨b, o + i * 3 + 2, none⟩ = some (.bool l[i].dead)
theorem Vs.on {l : List Ve} {v : Value} (h : Vs w l v) (hb : Below w.heap.size w w') : Vs w' l v := by
  obtain ⟨ad, cap, e, h0, h1, h2, h3⟩ := h
  refine ⟨ad, cap, e, h0, h1, h2, fun i hi => ?_⟩
  obtain ⟨b, o, ha, hl, c0, c1, c2⟩ := h3 i hi
  exact ⟨b, o, ha, Nat.lt_of_lt_of_le hl hb.size, cell_on hb c0, cell_on hb c1, cell_on hb c2⟩
theorem Vs.own {B : Nat} {l : List Ve} {v : Value} (h : w.ownsRow B 125 3 v l.length (veC l)) : Vs w l v := by
  have h' := own_mono h (Nat.zero_le B)
  rcases h.2 with ⟨hv, h0⟩ | ⟨g, cap, cur, hv, hg, hc, h1, h2, hr⟩
  · exact ⟨none, 0, by rw [hv, h0], fun _ => rfl, by omega, Nat.zero_le _, fun i hi => by omega⟩
  · subst hv
    refine ⟨_, cap, rfl, fun q => (by cases q), h1, h2, fun i hi => ?_⟩
    obtain ⟨g', cap', e, _, _, c0, c1, c2⟩ := ve_cells h' hi
    cases e
    exact ⟨g, 0, rfl, blk_lt hc, by rw [Nat.zero_add]; exact c0, by rw [Nat.zero_add]; exact c1, by rw [Nat.zero_add]; exact c2⟩
theorem veC_cell (L : List Ve) : ∀ (j : Nat) (u : Value), (veC L)[j]? = some u → ∃ (i : Nat) (h : i < L.length), (j = i * 3 ∧ u = .int .i64 L[i].ts) ∨ (j = i * 3 + 1 ∧ u = .string L[i].val) ∨ (j = i * 3 + 2 ∧ u = .bool L[i].dead) := by
  intro j u hu
  have hj : j < L.length * 3 := by
    have := (List.getElem?_eq_some_iff.1 hu).1
    rwa [veC_len] at this
  have hi : j / 3 < L.length := by omega
  obtain ⟨a, b, c⟩ := veC_get L (j / 3) hi
  refine ⟨j / 3, hi, ?_⟩
  have h3 : j = j / 3 * 3 ∨ j = j / 3 * 3 + 1 ∨ j = j / 3 * 3 + 2 := by omega
  rcases h3 with e | e | e
  · rw [← e] at a
    rw [hu] at a
    exact .inl ⟨e, by simpa using a⟩
  · rw [← e] at b
    rw [hu] at b
    exact .inr (.inl ⟨e, by simpa using b⟩)
  · rw [← e] at c
    rw [hu] at c
    exact .inr (.inr ⟨e, by simpa using c⟩)
theorem Vs.src {l : List Ve} {ad : Option Addr} {cap : Nat} (h : Vs w l (.slice ad l.length cap)) : (ad = none ∧ l.length = 0 ∧ cap = 0 ∧ veC l = []) ∨ ∃ a, ad = some a ∧ (veC l).length = l.length * 3 ∧ (∀ j u, (veC l)[j]? = some u → w.cell? (a.add j) = some u) := by
  obtain ⟨ad', cap', e, h0, h1, h2, h3⟩ := h
  cases e
  cases had : ad with
  | none =>
    have hL : l = [] := by
      rcases l with _ | ⟨x, l⟩
      · rfl
      · obtain ⟨b, o, e, _⟩ := h3 0 (by simp)
        rw [had] at e
        cases e
    subst hL
    exact .inl ⟨rfl, rfl, h0 had, rfl⟩
  | some a =>
    refine .inr ⟨a, rfl, veC_len l, fun j u hu => ?_⟩
    obtain ⟨i, hi, h⟩ := veC_cell l j u hu
    obtain ⟨b, o, e, _, c0, c1, c2⟩ := h3 i hi
    rw [had] at e
    cases e
    rw [add_at]
    rcases h with ⟨rfl, rfl⟩ | ⟨rfl, rfl⟩ | ⟨rfl, rfl⟩
    · exact c0
    · exact c1
    · exact c2
theorem own_empty31 (w : World) : (w.alloc (.cells #[] 125)).ownsRow w.heap.size 125 3 (.slice (some ⟨w.heap.size, 0, none⟩) 0 0) 0 [] :=
  ⟨rfl, .inr ⟨w.heap.size, 0, #[], rfl, Nat.le_refl _, heap_alloc_new w _, Nat.le_refl _, Nat.zero_le _, rfl, rfl⟩⟩
theorem wpl_run {P : Program} {w w' : World} {ops : Array Oper} {rest : List Oper} {o : Oper} {a : Act} {Q : Exit → Act → World → Prop} {t u ty : TypeId} {v' : Value} {ds : Option Tmp} {ps : String} {af : Array Edge} (s x : Operand)
    (ho : o = ⟨ds, .call { callee := .builtin .append, args := #[s, x], argTypes := #[t, u] }, ty, ps, af, none⟩) (hrun : (Builtin.append_ #[t, u] ty #[a.eval s, a.eval x]).run P w = .ok v' w')
    (h : wpList P ops Q rest (a.put ds v') w') : wpList P ops Q (o :: rest) a w := by
  subst ho
  refine wpList_plain rfl fun K hK => ?_
  unfold Oper.wp execOp
  simp only [resolve, invoke, builtin, Sem.run_bind, Sem.run_pure, Result.andThen_ok, List.map_toArray, List.map_cons, List.map_nil, hrun]
  exact hK _ _ h
theorem wpl_run2 {P : Program} {w w' : World} {ops : Array Oper} {rest : List Oper} {o : Oper} {a : Act} {Q : Exit → Act → World → Prop} {t u ty : TypeId} {v1 v2 v' : Value} {ds : Option Tmp} {ps : String} {af : Array Edge} (s x : Operand)
    (ho : o = ⟨ds, .call { callee := .builtin .append, args := #[s, x], argTypes := #[t, u] }, ty, ps, af, none⟩) (hs : a.eval s = v1) (hx : a.eval x = v2) (hrun : (Builtin.append_ #[t, u] ty #[v1, v2]).run P w = .ok v' w')
    (h : wpList P ops Q rest (a.put ds v') w') : wpList P ops Q (o :: rest) a w := by
  subst hs
  subst hx
  exact wpl_run s x ho hrun h
set_option maxHeartbeats 1000000 in
set_option maxRecDepth 100000 in
theorem clone_any {l : List Ve} {v : Value} (hl : Vs w l v) (hz : l.length ≤ 900000) : Calls Try.prog 61 #[v] w fun e w' => ∃ ad cap, e = .returned (.slice ad l.length cap) ∧ w'.ownsRow w.heap.size 125 3 (.slice ad l.length cap) l.length (veC l) ∧ Below w.heap.size w w' := by
  have hl' := hl
  obtain ⟨ad, cap, rfl, h0, h1, h2, _⟩ := hl'
  cases ad with
  | none =>
    have e0 : l = [] := by
      rcases hl.src with ⟨_, q, _⟩ | ⟨a, q, _⟩
      · exact List.eq_nil_of_length_eq_zero q
      · cases q
    subst e0
    have hc0 := h0 rfl
    subst hc0
    clear h0 h1 h2 hl
    have hq : ∀ w, (binOp BinOp.eql 127 (.slice none 0 0) (.slice none 0 0)).run Try.prog w = .ok (.bool true) w := fun _ => by kernel_rfl
    go_enter Try.func61, Try.ntmps61
    go_wp2
    refine bodyPost_ret (v := .slice none 0 0) (by simp [results, Try.results61, go_sem]) rfl ?_
    exact ⟨none, 0, rfl, World.ownsRow_nil _ _ _ _, Below.refl _ _⟩
  | some a =>
    have hal : Below w.heap.size w (w.alloc (.cells #[] 125)) := (Below.refl _ w).alloc (Nat.le_refl _) _
    obtain ⟨ad', cap', w', hrun, ho, hg, _⟩ := run_ve (own_empty31 w) hal.size (hl.on hal).src (veC_one _) (by omega)
    rw [Nat.zero_add, List.nil_append] at ho
    rw [Nat.zero_add] at hrun
    have hb := hal.grown hg hal.size (fun k hk => ((own_empty31 w).lt k hk).1)
    have HO := Lib.hid ho
    have HB := Lib.hid hb
    clear h0 h1 h2 hl ho hb hg hal
    have hq : ∀ w, (binOp BinOp.eql 127 (.slice (some a) l.length cap) (.slice none 0 0)).run Try.prog w = .ok (.bool false) w := fun _ => by kernel_rfl
    go_enter Try.func61, Try.ntmps61
    go_wp2_with (at_builtin; refine wpl_run2 _ _ rfl (by simp [Act.eval]) (by simp [Act.eval]) hrun ?_)
    refine bodyPost_ret (v := .slice ad' l.length cap') (by simp [results, Try.results61, go_sem]) rfl ?_
    exact ⟨ad', cap', rfl, HO.out, HB.out⟩
end
end Go.Proofs.Ytcoaahlakkghhaa
