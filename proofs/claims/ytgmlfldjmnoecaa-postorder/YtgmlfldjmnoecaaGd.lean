/- Take, Copy and Lose in one form each; a bag that is none; the document's Without. -/
import Derived.Test.YtgmlfldjmnoecaaGc3
namespace Go.Proofs.Ytgmlfldjmnoecaa
open Go.RowKit

section
variable {w w' w1 w2 : World} {A : Nat} {S T : Nat → Prop} {L : List Lt} {v : Value} {l : Lt}
theorem copy_any (h : Ps w A S L) (i : Int) : Calls Try.prog 11 #[.pointer (some ⟨A, 0, none⟩), .int .i64 i] w fun e w' => e = .returned (.tuple #[ltV (atL L i), .bool (isL L i)]) ∧ Below w.heap.size w w' := by
  rcases isL_split L i with ⟨k, rfl, hk⟩ | hi
  · rw [atL_nat hk, isL_nat hk]
    exact copy_yes h hk
  · rw [atL_not hi, isL_not hi]
    exact copy_no h hi
set_option maxHeartbeats 2000000 in
set_option maxRecDepth 100000 in
theorem take_none {a : Option Addr} {i : Int} (hcp : Calls Try.prog 11 #[.pointer a, .int .i64 i] (w.alloc (ltO lt0)) fun e w' => e = .returned (.tuple #[ltV lt0, .bool false]) ∧ Below (w.alloc (ltO lt0)).heap.size (w.alloc (ltO lt0)) w') : Calls Try.prog 10 #[.pointer a, .int .i64 i] w fun e w' => e = .returned (.tuple #[ltV lt0, .bool false]) ∧ Below w.heap.size w w' := by
  have hal : Below w.heap.size w (w.alloc (ltO lt0)) := (Below.refl _ w).alloc (Nat.le_refl _) _
  go_enter Try.func10, Try.ntmps10
  go_wp2_with fail
  refine hcp.mono ?_
  rintro e w1 ⟨rfl, hb1⟩
  have hb01 := hal.trans (hb1.mono hal.size)
  have zr : (w1.alloc (ltO lt0)).heap[w.heap.size]? = some (ltO lt0) := by
    have e1 : w1.heap[w.heap.size]? = some (ltO lt0) := (hb1.block w.heap.size (by simp)).trans (heap_alloc_new w _)
    exact (((Below.refl _ w1).alloc (Nat.le_refl _) (ltO lt0)).block _ (blk_lt e1)).trans e1
  have r0 := cell_blk zr 0
  have r1 := cell_blk zr 1
  have r2 := cell_blk zr 2
  have q0 := frozen_blk zr 0
  have q1 := frozen_blk zr 1
  have q2 := frozen_blk zr 2
  go_wp2
  have zz : ((((w1.alloc (ltO lt0)).setCell ⟨w.heap.size, 0, none⟩ (.int .i64 0)).setCell ⟨w.heap.size, 1, none⟩ (.int .i64 0)).setCell ⟨w.heap.size, 2, none⟩ (.string ⟨#[]⟩)).heap[w.heap.size]? = some (ltO lt0) := by
    have := set_blk (i := 2) (set_blk (i := 1) (set_blk (i := 0) zr (.int .i64 0)) (.int .i64 0)) (.string ⟨#[]⟩)
    simpa using this
  have x0 := cell_blk zz 0
  have x1 := cell_blk zz 1
  have x2 := cell_blk zz 2
  refine bodyPost_ret (v := .tuple #[ltV lt0, .bool false]) (by simp [results, Try.results10, go_sem, x0, x1, x2]) rfl ?_
  have hfr : Fr w ((((w1.alloc (ltO lt0)).setCell ⟨w.heap.size, 0, none⟩ (.int .i64 0)).setCell ⟨w.heap.size, 1, none⟩ (.int .i64 0)).setCell ⟨w.heap.size, 2, none⟩ (.string ⟨#[]⟩)) (fun _ => False) :=
    Fr.set (Fr.set (Fr.set ((Fr.ofBelow _ hb01).alloc _) (.inr (Nat.le_refl _)) _) (.inr (Nat.le_refl _)) _) (.inr (Nat.le_refl _)) _
  exact ⟨rfl, hfr.fresh (fun _ q => q.elim)⟩
theorem take_no (h : Ps w A S L) {i : Int} (hi : i < 0 ∨ (L.length : Int) ≤ i) : Calls Try.prog 10 #[.pointer (some ⟨A, 0, none⟩), .int .i64 i] w fun e w' => e = .returned (.tuple #[ltV lt0, .bool false]) ∧ Below w.heap.size w w' :=
  take_none (copy_no (h.on ((Below.refl _ w).alloc (Nat.le_refl _) _)) hi)
theorem take_nil (i : Int) (w : World) : Calls Try.prog 10 #[.pointer none, .int .i64 i] w fun e w' => e = .returned (.tuple #[ltV lt0, .bool false]) ∧ Below w.heap.size w w' :=
  take_none (copy_nil i _)
theorem take_any (h : Ps w A S L) (i : Int) : Calls Try.prog 10 #[.pointer (some ⟨A, 0, none⟩), .int .i64 i] w fun e w' => e = .returned (.tuple #[ltV (atL L i), .bool (isL L i)]) ∧ Ps w' A (Gro S w w') (remL L i) ∧ Fr w w' S := by
  rcases isL_split L i with ⟨k, rfl, hk⟩ | hi
  · rw [atL_nat hk, isL_nat hk, remL_nat hk]
    exact take_yes h hk
  · rw [atL_not hi, isL_not hi, remL_not hi]
    refine (take_no h hi).mono ?_
    rintro e w' ⟨rfl, hb⟩
    exact ⟨rfl, h.grow hb, Fr.ofBelow _ hb⟩
set_option maxHeartbeats 2000000 in
set_option maxRecDepth 100000 in
theorem lose_any (h : Ps w A S L) (i : Int) : Calls Try.prog 12 #[.pointer (some ⟨A, 0, none⟩), .int .i64 i] w fun e w' => e = .returned (.bool (isL L i)) ∧ Ps w' A (Gro S w w') (remL L i) ∧ Fr w w' S := by
  have hhas := has_any h i
  rcases isL_split L i with ⟨k, rfl, hk⟩ | hi
  · rw [isL_nat hk] at hhas ⊢
    rw [remL_nat hk]
    have hrm := remove_any h hk
    go_enter Try.func12, Try.ntmps12
    go_wp2_with fail
    refine hhas.mono ?_
    rintro e w1 ⟨rfl, rfl⟩
    go_wp2_with fail
    refine hrm.mono ?_
    rintro e w2 ⟨rfl, ⟨v, hp⟩, hf⟩
    go_wp2
    go_ret
    refine ⟨rfl, ⟨v, hp.wider (fun k q => .inl q) (fun k q => ?_)⟩, hf⟩
    rcases q with q | q
    · exact hp.lt k q
    · exact q.2
  · rw [isL_not hi] at hhas ⊢
    rw [remL_not hi]
    go_enter Try.func12, Try.ntmps12
    go_wp2_with fail
    refine hhas.mono ?_
    rintro e w1 ⟨rfl, rfl⟩
    go_wp2
    go_ret
    exact ⟨rfl, h.grow (Below.refl _ _), Fr.refl _ _⟩

/-! ### A bag that is none -/
theorem lose_nil (i : Int) (w : World) : Calls Try.prog 12 #[.pointer none, .int .i64 i] w fun e w' => e = .returned (.bool false) ∧ Below w.heap.size w w' := by
  go_enter Try.func12, Try.ntmps12
  go_wp2_with fail
  refine (has_nil i w).mono ?_
  rintro e w1 ⟨rfl, rfl⟩
  go_wp2
  go_ret
  exact ⟨rfl, Below.refl _ _⟩
end
end Go.Proofs.Ytgmlfldjmnoecaa
