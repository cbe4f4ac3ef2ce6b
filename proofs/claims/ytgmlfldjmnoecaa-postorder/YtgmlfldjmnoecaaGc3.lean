/- The walk of Take where there is a letter. -/
import Derived.Test.YtgmlfldjmnoecaaGc2
namespace Go.Proofs.Ytgmlfldjmnoecaa
open Go.RowKit

section
variable {w w' w1 w2 : World} {A : Nat} {S T : Nat → Prop} {L : List Lt} {v : Value} {l : Lt}
theorem three (w : World) (b : Nat) (x y z : Value) : Fr w (((w.setCell ⟨b, 0, none⟩ x).setCell ⟨b, 1, none⟩ y).setCell ⟨b, 2, none⟩ z) (fun k => k = b) :=
  Fr.set (a := ⟨b, 2, none⟩) (Fr.set (a := ⟨b, 1, none⟩) (Fr.set (a := ⟨b, 0, none⟩) (Fr.refl w (fun k => k = b)) (Or.inl rfl) x) (Or.inl rfl) y) (Or.inl rfl) z
set_option maxHeartbeats 400000 in
set_option maxRecDepth 100000 in
theorem take_yes (h : Ps w A S L) {i : Nat} (hi : i < L.length) : Calls Try.prog 10 #[.pointer (some ⟨A, 0, none⟩), .int .i64 i] w fun e w' => e = .returned (.tuple #[ltV L[i], .bool true]) ∧ Ps w' A (Gro S w w') (L.eraseIdx i) ∧ Fr w w' S := by
  have hal : Below w.heap.size w (w.alloc (ltO lt0)) := (Below.refl _ w).alloc (Nat.le_refl _) _
  have hcp := copy_yes (h.on hal) hi
  obtain ⟨y, hy⟩ : ∃ y, L[i] = y := ⟨_, rfl⟩
  rw [hy] at hcp ⊢
  go_enter Try.func10, Try.ntmps10
  go_wp2_with fail
  refine hcp.mono ?_
  rintro e w1 ⟨rfl, hb1⟩
  have hb01 := hal.trans (hb1.mono hal.size)
  have hal2 : Below w1.heap.size w1 (w1.alloc (ltO y)) := (Below.refl _ w1).alloc (Nat.le_refl _) _
  have hb02 := hb01.trans (hal2.mono hb01.size)
  have hrm := remove_any (h.on hb02) hi
  have z : (w1.alloc (ltO y)).heap[w1.heap.size]? = some (ltO y) := heap_alloc_new w1 _
  have zr : (w1.alloc (ltO y)).heap[w.heap.size]? = some (ltO lt0) := by
    have e1 : w1.heap[w.heap.size]? = some (ltO lt0) := (hb1.block w.heap.size (by simp)).trans (heap_alloc_new w _)
    exact (hal2.block _ (blk_lt e1)).trans e1
  have hw01 : w.heap.size < w1.heap.size := Nat.lt_of_lt_of_le (by simp) hb1.size
  have hlt := h.lt
  have HL := Lib.hid hlt
  have HB := Lib.hid hb1
  clear hy hcp hlt
  go_wp2_with fail
  refine hrm.mono ?_
  rintro e W4 ⟨rfl, hp4, hf4⟩
  have z4 : W4.heap[w1.heap.size]? = some (ltO y) := (hf4.block _ (blk_lt z) (fun q => by have := HL.out _ q; omega)).trans z
  have zr4 : W4.heap[w.heap.size]? = some (ltO lt0) := (hf4.block _ (blk_lt zr) (fun q => by have := HL.out _ q; omega)).trans zr
  have y0 : W4.cell? ⟨w1.heap.size, 0, none⟩ = some (.int .i64 y.fr) := by rw [cell_blk z4]; rfl
  have y1 : W4.cell? ⟨w1.heap.size, 1, none⟩ = some (.int .i64 y.to) := by rw [cell_blk z4]; rfl
  have y2 : W4.cell? ⟨w1.heap.size, 2, none⟩ = some (.string y.text) := by rw [cell_blk z4]; rfl
  have r0 : W4.cell? ⟨w.heap.size, 0, none⟩ = some (.int .i64 0) := by rw [cell_blk zr4]; rfl
  have r1 : W4.cell? ⟨w.heap.size, 1, none⟩ = some (.int .i64 0) := by rw [cell_blk zr4]; rfl
  have r2 : W4.cell? ⟨w.heap.size, 2, none⟩ = some (.string ⟨#[]⟩) := by rw [cell_blk zr4]; rfl
  have q0 : W4.frozen? ⟨w.heap.size, 0, none⟩ = false := frozen_blk zr4 0
  have q1 : W4.frozen? ⟨w.heap.size, 1, none⟩ = false := frozen_blk zr4 1
  have q2 : W4.frozen? ⟨w.heap.size, 2, none⟩ = false := frozen_blk zr4 2
  have hk4 : Fr w W4 S := (Fr.ofBelow S hb02).step hf4 (fun q hq => .inl hq)
  have HK := Lib.hid hk4
  have HH := Lib.hid hp4
  have H4 := Lib.hid z4
  have HR4 := Lib.hid zr4
  clear hk4 hp4 hf4 z zr hb02 hb01 hal2 hal hrm hw01 h hi z4 zr4
  go_wp2
  have hlt := HL.out
  have hp4 := HH.out
  have zr4 := HR4.out
  have k4 := HK.out
  have zz : (((W4.setCell ⟨w.heap.size, 0, none⟩ (.int .i64 y.fr)).setCell ⟨w.heap.size, 1, none⟩ (.int .i64 y.to)).setCell ⟨w.heap.size, 2, none⟩ (.string y.text)).heap[w.heap.size]? = some (ltO y) := by
    have := set_blk (i := 2) (set_blk (i := 1) (set_blk (i := 0) zr4 (.int .i64 y.fr)) (.int .i64 y.to)) (.string y.text)
    simpa using this
  have x0 := cell_blk zz 0
  have x1 := cell_blk zz 1
  have x2 := cell_blk zz 2
  have hfr : Fr w (((W4.setCell ⟨w.heap.size, 0, none⟩ (.int .i64 y.fr)).setCell ⟨w.heap.size, 1, none⟩ (.int .i64 y.to)).setCell ⟨w.heap.size, 2, none⟩ (.string y.text)) S :=
    Fr.set (Fr.set (Fr.set k4 (.inr (Nat.le_refl _)) _) (.inr (Nat.le_refl _)) _) (.inr (Nat.le_refl _)) _
  refine bodyPost_ret (v := .tuple #[ltV y, .bool true]) (by simp [results, Try.results10, go_sem, x0, x1, x2]) rfl ?_
  obtain ⟨v5, h5⟩ := hp4.stays (three W4 w.heap.size _ _ _) (fun b hb q => Nat.ne_of_lt (hlt b hb) q)
  refine ⟨rfl, ⟨v5, h5.wider (fun k q => .inl q) (fun k q => ?_)⟩, hfr⟩
  rcases q with q | q
  · exact h5.lt k q
  · exact q.2
end
end Go.Proofs.Ytgmlfldjmnoecaa
