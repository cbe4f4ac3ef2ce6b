/- The walk of the law's copied. -/
import Derived.Test.YtmiagjcihmenfaaRc
import Derived.Test.YtmiagjcihmenfaaPi
namespace Go.Proofs.Ytmiagjcihmenfaa
open Go.RowKit

section
variable {w w' : World} {A : Nat} {S T : Nat → Prop} {b : Bs} {lv : Value} {pf : Int}
theorem own_emptyP (w : World) : (w.alloc (.cells #[] 49)).ownsRow w.heap.size 49 4 (.slice (some ⟨w.heap.size, 0, none⟩) 0 0) 0 [] :=
  ⟨rfl, .inr ⟨w.heap.size, 0, #[], rfl, Nat.le_refl _, heap_alloc_new w _, Nat.le_refl _, Nat.zero_le _, rfl, rfl⟩⟩
set_option maxHeartbeats 1000000 in
set_option maxRecDepth 100000 in
theorem copiedL_p {m : Ms} {mad : Option Addr} {mcap : Nat} (hE : Es w S m.list (.slice mad m.list.length mcap)) (hS : ∀ k, S k → k < w.heap.size) (hz : m.list.length * 40 ≤ 140737488355328) : Calls Try.prog 30 #[msV m (.slice mad m.list.length mcap)] w fun e w' => ∃ ad cap, e = .returned (msV m (.slice ad m.list.length cap)) ∧ Below w.heap.size w w' ∧ Es w' S m.list (.slice ad m.list.length cap) := by
  -- the box, then the result
  obtain ⟨W1, hW1⟩ : ∃ W1, W1 = w.alloc (.cells #[.int .i64 m.kind, .int .i64 m.fr, .int .i64 m.to, .int .i64 m.term, .int .i64 m.index, .int .i64 m.prev, .int .i64 m.commit, .bool m.good, .slice mad m.list.length mcap, .string m.snap] 34) := ⟨_, rfl⟩
  have hb1 : Below w.heap.size w W1 := by rw [hW1]; exact (Below.refl _ w).alloc (Nat.le_refl _) _
  have k1 : W1.heap[w.heap.size]? = some (msO m (.slice mad m.list.length mcap)) := by rw [hW1]; exact heap_alloc_new w _
  obtain ⟨W2, hW2⟩ : ∃ W2, W2 = W1.alloc Z34 := ⟨_, rfl⟩
  have hb2' : Below W1.heap.size W1 W2 := by rw [hW2]; exact (Below.refl _ W1).alloc (Nat.le_refl _) _
  have hb2 : Below w.heap.size w W2 := hb1.trans (hb2'.mono hb1.size)
  have k2 : W2.heap[w.heap.size]? = some (msO m (.slice mad m.list.length mcap)) := (hb2'.block _ (blk_lt k1)).trans k1
  have r2 : W2.heap[W1.heap.size]? = some Z34 := by rw [hW2]; exact heap_alloc_new W1 _
  -- the copy
  have hE2 := hE.on hb2
  have hal : Below W2.heap.size W2 (W2.alloc (.cells #[] 49)) := (Below.refl _ W2).alloc (Nat.le_refl _) _
  obtain ⟨v, w3, hrun, ho, hg, _⟩ := ens_run (w := W2.alloc (.cells #[] 49)) (own_emptyP W2) hal.size (hE2.on hal).src (enC_one _) (by omega)
  simp only [Nat.zero_add, List.nil_append] at ho
  have hb3' : Below W2.heap.size W2 w3 := hal.grown hg hal.size (fun k hk => ((own_emptyP W2).lt k hk).1)
  obtain ⟨ad, cap, rfl⟩ := own_shape ho
  have k3 : w3.heap[w.heap.size]? = some (msO m (.slice mad m.list.length mcap)) := (hb3'.block _ (blk_lt k2)).trans k2
  have r3 : w3.heap[W1.heap.size]? = some Z34 := (hb3'.block _ (blk_lt r2)).trans r2
  have hne : W1.heap.size ≠ w.heap.size := by have := blk_lt k1; omega
  have e8 : (W2.alloc (.cells #[] 49)).cell? ⟨w.heap.size, 8, none⟩ = some (.slice mad m.list.length mcap) := by
    rw [cell_blk ((hal.block _ (blk_lt k2)).trans k2)]; rfl
  have d8 : w3.cell? ⟨w.heap.size, 8, none⟩ = some (.slice mad m.list.length mcap) := cell_blk k3 8
  have f8 : w3.frozen? ⟨w.heap.size, 8, none⟩ = false := frozen_blk k3 8
  obtain ⟨W4, hW4⟩ : ∃ W4, W4 = w3.setCell ⟨w.heap.size, 8, none⟩ (.slice ad m.list.length cap) := ⟨_, rfl⟩
  have k4 : W4.heap[w.heap.size]? = some (msO m (.slice ad m.list.length cap)) := by rw [hW4]; exact set_blk (i := 8) k3 _
  have r4 : W4.heap[W1.heap.size]? = some Z34 := by rw [hW4, set_other _ hne]; exact r3
  have hsz1 : W1.heap.size = w.heap.size + 1 := by rw [hW1]; simp
  rw [hsz1] at r4
  have hf4 : Fr w W4 (fun _ => False) := by
    rw [hW4]
    exact Fr.set (a := ⟨w.heap.size, 8, none⟩) ((Fr.ofBelow (fun _ => False) hb2).below hb3') (Or.inr (Nat.le_refl _)) _
  have ho4 : W4.ownsRow W2.heap.size 49 4 (.slice ad m.list.length cap) m.list.length (enC m.list) := by
    rw [hW4]
    exact own_like ho (fun q hq => set_other _ (fun e => by have := (ho.lt q hq).1; have := blk_lt k2; have e' : q = w.heap.size := e; omega))
  have m0 : W4.cell? ⟨w.heap.size, 0, none⟩ = some (.int .i64 m.kind) := cell_blk k4 0
  have m1 : W4.cell? ⟨w.heap.size, 1, none⟩ = some (.int .i64 m.fr) := cell_blk k4 1
  have m2 : W4.cell? ⟨w.heap.size, 2, none⟩ = some (.int .i64 m.to) := cell_blk k4 2
  have m3 : W4.cell? ⟨w.heap.size, 3, none⟩ = some (.int .i64 m.term) := cell_blk k4 3
  have m4 : W4.cell? ⟨w.heap.size, 4, none⟩ = some (.int .i64 m.index) := cell_blk k4 4
  have m5 : W4.cell? ⟨w.heap.size, 5, none⟩ = some (.int .i64 m.prev) := cell_blk k4 5
  have m6 : W4.cell? ⟨w.heap.size, 6, none⟩ = some (.int .i64 m.commit) := cell_blk k4 6
  have m7 : W4.cell? ⟨w.heap.size, 7, none⟩ = some (.bool m.good) := cell_blk k4 7
  have m8 : W4.cell? ⟨w.heap.size, 8, none⟩ = some (.slice ad m.list.length cap) := cell_blk k4 8
  have m9 : W4.cell? ⟨w.heap.size, 9, none⟩ = some (.string m.snap) := cell_blk k4 9
  have r00 : W4.cell? ⟨w.heap.size + 1, 0, none⟩ = some (.int .i64 0) := cell_blk r4 0
  have q00 : W4.frozen? ⟨w.heap.size + 1, 0, none⟩ = false := frozen_blk r4 0
  have r10 : W4.cell? ⟨w.heap.size + 1, 1, none⟩ = some (.int .i64 0) := cell_blk r4 1
  have q10 : W4.frozen? ⟨w.heap.size + 1, 1, none⟩ = false := frozen_blk r4 1
  have r20 : W4.cell? ⟨w.heap.size + 1, 2, none⟩ = some (.int .i64 0) := cell_blk r4 2
  have q20 : W4.frozen? ⟨w.heap.size + 1, 2, none⟩ = false := frozen_blk r4 2
  have r30 : W4.cell? ⟨w.heap.size + 1, 3, none⟩ = some (.int .i64 0) := cell_blk r4 3
  have q30 : W4.frozen? ⟨w.heap.size + 1, 3, none⟩ = false := frozen_blk r4 3
  have r40 : W4.cell? ⟨w.heap.size + 1, 4, none⟩ = some (.int .i64 0) := cell_blk r4 4
  have q40 : W4.frozen? ⟨w.heap.size + 1, 4, none⟩ = false := frozen_blk r4 4
  have r50 : W4.cell? ⟨w.heap.size + 1, 5, none⟩ = some (.int .i64 0) := cell_blk r4 5
  have q50 : W4.frozen? ⟨w.heap.size + 1, 5, none⟩ = false := frozen_blk r4 5
  have r60 : W4.cell? ⟨w.heap.size + 1, 6, none⟩ = some (.int .i64 0) := cell_blk r4 6
  have q60 : W4.frozen? ⟨w.heap.size + 1, 6, none⟩ = false := frozen_blk r4 6
  have r70 : W4.cell? ⟨w.heap.size + 1, 7, none⟩ = some (.bool false) := cell_blk r4 7
  have q70 : W4.frozen? ⟨w.heap.size + 1, 7, none⟩ = false := frozen_blk r4 7
  have r80 : W4.cell? ⟨w.heap.size + 1, 8, none⟩ = some (.slice none 0 0) := cell_blk r4 8
  have q80 : W4.frozen? ⟨w.heap.size + 1, 8, none⟩ = false := frozen_blk r4 8
  have r90 : W4.cell? ⟨w.heap.size + 1, 9, none⟩ = some (.string ⟨#[]⟩) := cell_blk r4 9
  have q90 : W4.frozen? ⟨w.heap.size + 1, 9, none⟩ = false := frozen_blk r4 9
  have HW1 := Lib.hid hW1
  have HW2 := Lib.hid hW2
  have HW4 := Lib.hid hW4
  have HR4 := Lib.hid r4
  have HF4 := Lib.hid hf4
  have HO4 := Lib.hid ho4
  have HLT : Hid (∀ k, S k → k < W2.heap.size) := fun k hk => Nat.lt_of_lt_of_le (hS k hk) hb2.size
  clear hsz1 hne hW1 hW2 hW4 hb1 hb2 hb2' k1 k2 r2 hE2 hal hg ho hb3' k3 r3 k4 r4 hf4 ho4 hE
  go_enter Try.func30, Try.ntmps30
  go_upto_region 1 with fail
  rw [← HW1.out, ← HW2.out]
  go_upto_region 2 with (at_builtin; refine wpl_run2 _ _ rfl (by simp [Act.eval]) (by simp [Act.eval]) hrun ?_)
  rw [← HW4.out]
  clear hrun d8 f8 e8
  go_wp2
  obtain ⟨e1, e2⟩ := setMs_blk m (.slice ad m.list.length cap) HR4.out
  refine bodyPost_ret (ret_ms rfl _ rfl e1) rfl ⟨ad, cap, rfl, ?_, ?_⟩
  · exact (HF4.out.step e2 (fun j q => .inr (by have q' : j = w.heap.size + 1 := q; omega))).fresh (fun _ q => q.elim)
  · have ho5 := own_like HO4.out (fun q hq => e2.block q (HO4.out.lt q hq).2 (fun e => by
      obtain ⟨cs, hc⟩ := own_tag2 HO4.out q hq
      have e' : q = w.heap.size + 1 := e
      subst e'
      exact tag_ne HR4.out hc (by decide) rfl))
    exact Es.own ho5 (fun q hq hs => by have := HLT.out q hs; have := (HO4.out.lt q hq).1; omega)
end
end Go.Proofs.Ytmiagjcihmenfaa
