/- The document's clearing in memory; its next, done, Clear. -/
import Derived.Test.YtfokgalgdlajlaaRb
namespace Go.Proofs.Ytfokgalgdlajlaa
open Go.RowKit
/-- How far a clearing has come. -/
structure CS where
  ph : Int
  ts : Int
  why : Int
/-- Whose, where. -/
structure CW where
  t0 : Int
  t1 : Int
  t2 : Int
  home : Int
  sh : Int
abbrev rxA (c : CW) (b : Nat) (s : CS) : Array Value := #[.int .i64 c.t0, .int .i64 c.t1, .int .i64 c.t2, .int .i64 c.home, .int .i64 0, .int .i64 0, .int .i64 0, .bool true, .slice (some ⟨b, 0, none⟩) 1 1, .int .i64 s.ph, .int .i64 0, .int .i64 s.ts, .int .i64 s.why]
abbrev rpA (c : CW) (dn : Bool) : Array Value := #[.int .i64 c.sh, .slice none 0 0, .slice none 0 0, .bool dn]
structure Rx (w : World) (R b : Nat) (c : CW) (s : CS) (dn : Bool) : Prop where
  blk : w.heap[R]? = some (.cells (rxA c b s) 87 (0, 0))
  part : w.heap[b]? = some (.cells (rpA c dn) 89 (0, 0))
theorem Rx.ne {w : World} {R b : Nat} {c : CW} {s : CS} {dn : Bool} (h : Rx w R b c s dn) : R ≠ b := fun q => by
  have h1 := h.blk
  rw [q, h.part] at h1
  simp only [Option.some.injEq, Obj.cells.injEq] at h1
  exact absurd h1.2.1 (by decide)
theorem Rx.on {w w' : World} {R b : Nat} {c : CW} {s : CS} {dn : Bool} (h : Rx w R b c s dn) (hb : Below w.heap.size w w') : Rx w' R b c s dn := ⟨(hb.block _ (blk_lt h.blk)).trans h.blk, (hb.block _ (blk_lt h.part)).trans h.part⟩
theorem Rx.fr {w w' : World} {A R b : Nat} {c : CW} {s : CS} {dn : Bool} {cs : Array Value} (h : Rx w R b c s dn) (hA : w.heap[A]? = some (.cells cs 82 (0, 0))) (hf : Fr w w' (fun k => k = A)) : Rx w' R b c s dn := by
  refine ⟨(hf.block _ (blk_lt h.blk) (fun q => ?_)).trans h.blk, (hf.block _ (blk_lt h.part) (fun q => ?_)).trans h.part⟩
  · have q' : R = A := q
    have h1 := h.blk
    rw [q', hA] at h1
    simp only [Option.some.injEq, Obj.cells.injEq] at h1
    exact absurd h1.2.1 (by decide)
  · have q' : b = A := q
    have h1 := h.part
    rw [q', hA] at h1
    simp only [Option.some.injEq, Obj.cells.injEq] at h1
    exact absurd h1.2.1 (by decide)
theorem Rx.cell {w : World} {R b : Nat} {c : CW} {s : CS} {dn : Bool} (h : Rx w R b c s dn) (i : Nat) : w.cell? ⟨R, i, none⟩ = (rxA c b s)[i]? := cell_blk h.blk i
/-- What a call that changes a document's clearing leaves. -/
def RxAns (w : World) (R b : Nat) (c : CW) (s : CS) (dn : Bool) (w' : World) : Prop := Rx w' R b c s dn ∧ Fr w w' (fun k => k = R ∨ k = b)
/-- A cell of the deal's own block is set. -/
theorem Rx.set {w : World} {R b i : Nat} {c : CW} {s s' : CS} {dn : Bool} {u : Value} (h : Rx w R b c s dn) (e : (rxA c b s).setIfInBounds i u = rxA c b s') : Rx (w.setCell ⟨R, i, none⟩ u) R b c s' dn ∧ Fr w (w.setCell ⟨R, i, none⟩ u) (fun k => k = R ∨ k = b) := by
  have f : Fr w (w.setCell ⟨R, i, none⟩ u) (fun k => k = R) := (Fr.refl w (fun k => k = R)).set (a := ⟨R, i, none⟩) (.inl rfl) _
  refine ⟨⟨?_, (f.block b (blk_lt h.part) (fun q => h.ne q.symm)).trans h.part⟩, f.mono fun k q => .inl q⟩
  rw [← e]
  exact set_blk h.blk u
theorem Rx.setD {w : World} {R b : Nat} {c : CW} {s : CS} {dn : Bool} (h : Rx w R b c s dn) (d' : Bool) : Rx (w.setCell ⟨b, 3, none⟩ (.bool d')) R b c s d' ∧ Fr w (w.setCell ⟨b, 3, none⟩ (.bool d')) (fun k => k = R ∨ k = b) := by
  have f : Fr w (w.setCell ⟨b, 3, none⟩ (.bool d')) (fun k => k = b) := (Fr.refl w (fun k => k = b)).set (a := ⟨b, 3, none⟩) (.inl rfl) _
  exact ⟨⟨(f.block R (blk_lt h.blk) (fun q => h.ne q)).trans h.blk, set_blk h.part _⟩, f.mono fun k q => .inr q⟩
section
variable {w : World} {R b : Nat} {c : CW} {s : CS} {dn : Bool}
set_option maxHeartbeats 4000000 in
set_option maxRecDepth 100000 in
theorem next_one (h0 : Rx w R b c s dn) (ph ts why : Int) : Calls Try.prog 49 #[.pointer (some ⟨R, 0, none⟩), .int .i64 ph, .int .i64 ts, .int .i64 why] w fun e w' => e = .returned (.tuple #[]) ∧ RxAns w R b c ⟨ph, ts, why⟩ false w' := by
  obtain ⟨W1, hW1⟩ : ∃ W, W = w.setCell ⟨R, 9, none⟩ (.int .i64 ph) := ⟨_, rfl⟩
  have c1 : w.cell? ⟨R, 9, none⟩ = some (.int .i64 s.ph) := h0.cell 9
  have z1 : w.frozen? ⟨R, 9, none⟩ = false := frozen_blk h0.blk _
  have hst1 : (Instr.storeAt 3 (.pointer (some ⟨R, 9, none⟩)) (.int .i64 ph)).run Try.prog w = .ok () W1 := by rw [hW1]; go_simp
  obtain ⟨h1, g1⟩ : Rx W1 R b c ⟨ph, s.ts, s.why⟩ dn ∧ Fr w W1 (fun k => k = R ∨ k = b) := by rw [hW1]; exact h0.set rfl
  have HS1 := Lib.hid hst1
  clear hW1 c1 z1 hst1
  obtain ⟨W2, hW2⟩ : ∃ W, W = W1.setCell ⟨R, 11, none⟩ (.int .i64 ts) := ⟨_, rfl⟩
  have c2 : W1.cell? ⟨R, 11, none⟩ = some (.int .i64 s.ts) := h1.cell 11
  have z2 : W1.frozen? ⟨R, 11, none⟩ = false := frozen_blk h1.blk _
  have hst2 : (Instr.storeAt 3 (.pointer (some ⟨R, 11, none⟩)) (.int .i64 ts)).run Try.prog W1 = .ok () W2 := by rw [hW2]; go_simp
  obtain ⟨h2, g2⟩ : Rx W2 R b c ⟨ph, ts, s.why⟩ dn ∧ Fr W1 W2 (fun k => k = R ∨ k = b) := by rw [hW2]; exact h1.set rfl
  have HS2 := Lib.hid hst2
  clear hW2 c2 z2 hst2
  obtain ⟨W3, hW3⟩ : ∃ W, W = W2.setCell ⟨R, 12, none⟩ (.int .i64 why) := ⟨_, rfl⟩
  have c3 : W2.cell? ⟨R, 12, none⟩ = some (.int .i64 s.why) := h2.cell 12
  have z3 : W2.frozen? ⟨R, 12, none⟩ = false := frozen_blk h2.blk _
  have hst3 : (Instr.storeAt 3 (.pointer (some ⟨R, 12, none⟩)) (.int .i64 why)).run Try.prog W2 = .ok () W3 := by rw [hW3]; go_simp
  obtain ⟨h3, g3⟩ : Rx W3 R b c ⟨ph, ts, why⟩ dn ∧ Fr W2 W3 (fun k => k = R ∨ k = b) := by rw [hW3]; exact h2.set rfl
  have HS3 := Lib.hid hst3
  clear hW3 c3 z3 hst3
  have l3 : W3.cell? ⟨R, 8, none⟩ = some (.slice (some ⟨b, 0, none⟩) 1 1) := h3.cell 8
  obtain ⟨W4, hW4⟩ : ∃ W, W = W3.setCell ⟨b, 3, none⟩ (.bool false) := ⟨_, rfl⟩
  have c4 : W3.cell? ⟨b, 3, none⟩ = some (.bool dn) := cell_blk h3.part 3
  have z4 : W3.frozen? ⟨b, 3, none⟩ = false := frozen_blk h3.part _
  have hst4 : (Instr.storeAt 4 (.pointer (some ⟨b, 3, none⟩)) (.bool false)).run Try.prog W3 = .ok () W4 := by rw [hW4]; go_simp
  obtain ⟨h4, g4⟩ : Rx W4 R b c ⟨ph, ts, why⟩ false ∧ Fr W3 W4 (fun k => k = R ∨ k = b) := by rw [hW4]; exact h3.setD false
  have HS4 := Lib.hid hst4
  clear hW4 c4 z4 hst4
  have l4 : W4.cell? ⟨R, 8, none⟩ = some (.slice (some ⟨b, 0, none⟩) 1 1) := h4.cell 8
  have HE := Lib.hid (And.intro h4 (((g1.trans g2).trans g3).trans g4))
  clear h0 h1 h2 h3 h4 g1 g2 g3 g4
  go_enter Try.func49, Try.ntmps49
  go_wp2_with (first | (refine wpl_store _ _ rfl (by first | rfl | simp [Act.eval]) (by first | rfl | simp [Act.eval]) HS1.out ?_) | (refine wpl_store _ _ rfl (by first | rfl | simp [Act.eval]) (by first | rfl | simp [Act.eval]) HS2.out ?_) | (refine wpl_store _ _ rfl (by first | rfl | simp [Act.eval]) (by first | rfl | simp [Act.eval]) HS3.out ?_))
  go_loopw [8] (fun iv wr => (iv = .int .i64 0 ∧ wr = W3) ∨ (iv = .int .i64 1 ∧ wr = W4)) (fun iv _ => 1 - (intOf iv).toNat)
  case atStart => exact .inl ⟨rfl, rfl⟩
  case round =>
    rcases hrel with ⟨rfl, hwr⟩ | ⟨rfl, hwr⟩
    · have hwr' := hwr.symm
      subst hwr'
      clear hwr
      go_wp2_with (refine wpl_store _ _ rfl (by first | rfl | simp [Act.eval]) (by first | rfl | simp [Act.eval]) HS4.out ?_)
      go_roundw
      case rel => exact .inr ⟨by go_num, trivial⟩
      case measure => simp [intOf]
    · have hwr' := hwr.symm
      subst hwr'
      clear hwr
      go_wp2
      refine bodyPost_end (results_none rfl _ _ _) rfl ?_
      exact ⟨rfl, HE.out⟩
set_option maxHeartbeats 4000000 in
set_option maxRecDepth 100000 in
theorem done_one (h0 : Rx w R b c s dn) : Calls Try.prog 50 #[.pointer (some ⟨R, 0, none⟩), .int .i64 c.sh] w fun e w' => e = .returned (.bool true) ∧ RxAns w R b c s true w' := by
  have l0 : w.cell? ⟨R, 8, none⟩ = some (.slice (some ⟨b, 0, none⟩) 1 1) := h0.cell 8
  have m0 : w.cell? ⟨b, 0, none⟩ = some (.int .i64 c.sh) := cell_blk h0.part 0
  obtain ⟨W1, hW1⟩ : ∃ W, W = w.setCell ⟨b, 3, none⟩ (.bool true) := ⟨_, rfl⟩
  have c1 : w.cell? ⟨b, 3, none⟩ = some (.bool dn) := cell_blk h0.part 3
  have z1 : w.frozen? ⟨b, 3, none⟩ = false := frozen_blk h0.part _
  have hst1 : (Instr.storeAt 4 (.pointer (some ⟨b, 3, none⟩)) (.bool true)).run Try.prog w = .ok () W1 := by rw [hW1]; go_simp
  obtain ⟨h1, g1⟩ : Rx W1 R b c s true ∧ Fr w W1 (fun k => k = R ∨ k = b) := by rw [hW1]; exact h0.setD true
  have HS1 := Lib.hid hst1
  clear hW1 c1 z1 hst1
  have l1 : W1.cell? ⟨R, 8, none⟩ = some (.slice (some ⟨b, 0, none⟩) 1 1) := h1.cell 8
  have m1 : W1.cell? ⟨b, 3, none⟩ = some (.bool true) := cell_blk h1.part 3
  have HE := Lib.hid (And.intro h1 g1)
  clear h0 h1 g1
  go_enter Try.func50, Try.ntmps50
  go_wp2
  go_loopw [5, 6] (fun av iv wr => (av = .bool true ∧ iv = .int .i64 0 ∧ wr = w) ∨ (av = .bool true ∧ iv = .int .i64 1 ∧ wr = W1)) (fun _ iv _ => 1 - (intOf iv).toNat)
  case atStart => exact .inl ⟨rfl, rfl, rfl⟩
  case round =>
    rcases hrel with ⟨rfl, rfl, hwr⟩ | ⟨rfl, rfl, hwr⟩
    · have hwr' := hwr.symm
      subst hwr'
      clear hwr
      go_wp2_with (refine wpl_store _ _ rfl (by first | rfl | simp [Act.eval]) (by first | rfl | simp [Act.eval]) HS1.out ?_)
      go_roundw
      case rel => exact .inr ⟨rfl, by go_num, trivial⟩
      case measure => simp [intOf]
    · have hwr' := hwr.symm
      subst hwr'
      clear hwr
      go_wp2
      refine bodyPost_ret (v := .bool true) (by simp [results, Try.results50, go_sem]) rfl ?_
      exact ⟨rfl, HE.out⟩
set_option maxHeartbeats 4000000 in
set_option maxRecDepth 100000 in
theorem refClear_any (c : CW) : Calls Try.prog 13 #[.agg #[.int .i64 c.t0, .int .i64 c.t1, .int .i64 c.t2], .int .i64 c.home, .int .i64 c.sh] w fun e w' => ∃ R b, e = .returned (.pointer (some ⟨R, 0, none⟩)) ∧ Rx w' R b c ⟨2, 0, 0⟩ false ∧ w.heap.size ≤ R ∧ w.heap.size ≤ b ∧ Below w.heap.size w w' := by
  obtain ⟨W, hW⟩ : ∃ W, W = ((w.alloc (.cells #[.int .i64 c.t0, .int .i64 c.t1, .int .i64 c.t2] 37)).alloc (.cells #[.int .i64 c.sh, .slice none 0 0, .slice none 0 0, .bool false] 89)).alloc (.cells #[.int .i64 c.t0, .int .i64 c.t1, .int .i64 c.t2, .int .i64 c.home, .int .i64 0, .int .i64 0, .int .i64 0, .bool true, .slice (some ⟨w.heap.size + 1, 0, none⟩) 1 1, .int .i64 2, .int .i64 0, .int .i64 0, .int .i64 0] 87) := ⟨_, rfl⟩
  obtain ⟨hb, j1, j2, j3⟩ := box3 hW
  have hx : Rx W (w.heap.size + 2) (w.heap.size + 1) c ⟨2, 0, 0⟩ false := ⟨j3, j2⟩
  have c0 : (w.alloc (.cells #[.int .i64 c.t0, .int .i64 c.t1, .int .i64 c.t2] 37)).cell? ⟨w.heap.size, 0, none⟩ = some (.int .i64 c.t0) := cell_blk (heap_alloc_new w _) 0
  have c1 : (w.alloc (.cells #[.int .i64 c.t0, .int .i64 c.t1, .int .i64 c.t2] 37)).cell? ⟨w.heap.size, 1, none⟩ = some (.int .i64 c.t1) := cell_blk (heap_alloc_new w _) 1
  have c2 : (w.alloc (.cells #[.int .i64 c.t0, .int .i64 c.t1, .int .i64 c.t2] 37)).cell? ⟨w.heap.size, 2, none⟩ = some (.int .i64 c.t2) := cell_blk (heap_alloc_new w _) 2
  have HW := Lib.hid hW
  have HX := Lib.hid (And.intro hx hb)
  clear hW hb j1 j2 j3 hx
  go_enter Try.func13, Try.ntmps13
  go_wp2
  refine bodyPost_ret (v := .pointer (some ⟨w.heap.size + 2, 0, none⟩)) (by simp [results, Try.results13, go_sem]) rfl ?_
  rw [← HW.out]
  exact ⟨_, _, rfl, HX.out.1, by omega, by omega, HX.out.2⟩
end
end Go.Proofs.Ytfokgalgdlajlaa
