/- The walk of the program's feed. -/
import Derived.Test.YtmiagjcihmenfaaPi
namespace Go.Proofs.Ytmiagjcihmenfaa
open Go.RowKit

section
variable {w w' : World} {A : Nat} {S T : Nat → Prop} {b : Bs} {lv : Value} {pf : Int}
theorem over3 {w W : World} {cs : Array Value} {t : TypeId} (hb : Below w.heap.size w W) (h : W.heap[w.heap.size]? = some (.cells cs t (0, 0))) (i j k : Nat) (x y z : Value) : Below w.heap.size w (((W.setCell ⟨w.heap.size, i, none⟩ x).setCell ⟨w.heap.size, j, none⟩ y).setCell ⟨w.heap.size, k, none⟩ z).drew ∧ (((W.setCell ⟨w.heap.size, i, none⟩ x).setCell ⟨w.heap.size, j, none⟩ y).setCell ⟨w.heap.size, k, none⟩ z).drew.heap[w.heap.size]? = some (.cells (((cs.setIfInBounds i x).setIfInBounds j y).setIfInBounds k z) t (0, 0)) := by
  have hf : Fr w W (fun _ => False) := Fr.ofBelow _ hb
  exact ⟨((Fr.set (a := ⟨w.heap.size, k, none⟩) (Fr.set (a := ⟨w.heap.size, j, none⟩) (Fr.set (a := ⟨w.heap.size, i, none⟩) hf (Or.inr (Nat.le_refl _)) x) (Or.inr (Nat.le_refl _)) y) (Or.inr (Nat.le_refl _)) z).drewN 1).fresh (fun _ q => q.elim), set_blk (set_blk (set_blk h x) y) z⟩
set_option maxHeartbeats 1000000 in
set_option maxRecDepth 100000 in
theorem feed_p0 (h : Pb w A S b) {k : Nat} (hk : k < 5) (hn : b.next.getD k 0 ≤ b.base) : Calls Try.prog 50 #[.pointer (some ⟨A, 0, none⟩), .int .i64 k] w fun e w' => ∃ lv, e = .returned (msV (mk b (b.feedM k)) lv) ∧ Below w.heap.size w w' ∧ w'.ownsRow w.heap.size 49 4 lv (b.feedM k).list.length (enC (b.feedM k).list) := by
  have em : b.feedM k = { ms0 with kind := 5, «to» := k, index := b.base, prev := b.baseTerm, snap := b.snap } := by unfold Bs.feedM; rw [if_pos hn]
  rw [em]
  have hb0 : Below w.heap.size w (w.alloc Z34) := (Below.refl _ w).alloc (Nat.le_refl _) _
  have h0 := h.on hb0
  have hm := message_any h0 5 k
  have HH := Lib.hid h0
  have HB := Lib.hid hb0
  obtain ⟨lv0, pf0, h0v⟩ := h0
  have cn := h0v.nextc hk
  have c4 : (w.alloc Z34).cell? ⟨A, 4, none⟩ = some (.int .i64 b.base) := h0v.cell 4
  obtain ⟨x, hx⟩ : ∃ x, b.next.getD k 0 = x := ⟨_, rfl⟩
  rw [hx] at cn hn
  have k0 : (0 : Int) ≤ k := by omega
  have k5 : (k : Int) < 5 := by omega
  clear h hb0 h0v em hx
  go_enter Try.func50, Try.ntmps50
  go_wp2_with fail
  refine hm.mono ?_
  rintro e w1 ⟨rfl, hb1⟩
  clear hm
  have h1 := HH.out.on hb1
  have hb1' := HB.out.trans (hb1.mono HB.out.size)
  obtain ⟨lv, pf, h1v⟩ := h1
  have h2v := h1v.alloc (msO { ms0 with kind := 5, fr := b.id, «to» := k, term := b.term } (.slice none 0 0))
  have c4 : (w1.alloc (.cells #[.int .i64 5, .int .i64 b.id, .int .i64 k, .int .i64 b.term, .int .i64 0, .int .i64 0, .int .i64 0, .bool false, .slice none 0 0, .string noT] 34)).cell? ⟨A, 4, none⟩ = some (.int .i64 b.base) := h2v.cell 4
  have c9 : (w1.alloc (.cells #[.int .i64 5, .int .i64 b.id, .int .i64 k, .int .i64 b.term, .int .i64 0, .int .i64 0, .int .i64 0, .bool false, .slice none 0 0, .string noT] 34)).cell? ⟨A, 9, none⟩ = some (.int .i64 b.baseTerm) := h2v.cell 9
  have c10 : (w1.alloc (.cells #[.int .i64 5, .int .i64 b.id, .int .i64 k, .int .i64 b.term, .int .i64 0, .int .i64 0, .int .i64 0, .bool false, .slice none 0 0, .string noT] 34)).cell? ⟨A, 10, none⟩ = some (.string b.snap) := h2v.cell 10
  have H2 := Lib.hid hb1'
  have hr4 : w1.heap[w.heap.size]? = some Z34 := (hb1.block w.heap.size (by simp)).trans (heap_alloc_new w _)
  have HR := Lib.hid hr4
  have hnA : A ≠ w1.heap.size := Nat.ne_of_lt (h1v.lt A h1v.covA)
  go_wp2
  obtain ⟨W1, hW1⟩ : ∃ W1, W1 = w1.alloc (.cells #[.int .i64 5, .int .i64 b.id, .int .i64 k, .int .i64 b.term, .int .i64 0, .int .i64 0, .int .i64 0, .bool false, .slice none 0 0, .string noT] 34) := ⟨_, rfl⟩
  rw [← hW1]
  rw [← hW1] at c4 c9 c10
  have hbk : W1.heap[w1.heap.size]? = some (.cells #[.int .i64 5, .int .i64 b.id, .int .i64 k, .int .i64 b.term, .int .i64 0, .int .i64 0, .int .i64 0, .bool false, .slice none 0 0, .string noT] 34 (0, 0)) := by rw [hW1]; exact heap_alloc_new w1 _
  have hbw : Below w1.heap.size w1 W1 := by rw [hW1]; exact (Below.refl _ w1).alloc (Nat.le_refl _) _
  have n4 : W1.cell? ⟨w1.heap.size, 4, none⟩ = some (.int .i64 0) := cell_blk hbk 4
  have n5 : W1.cell? ⟨w1.heap.size, 5, none⟩ = some (.int .i64 0) := cell_blk hbk 5
  have n9 : W1.cell? ⟨w1.heap.size, 9, none⟩ = some (.string ⟨#[]⟩) := cell_blk hbk 9
  have f4 : W1.frozen? ⟨w1.heap.size, 4, none⟩ = false := frozen_blk hbk 4
  have f5 : W1.frozen? ⟨w1.heap.size, 5, none⟩ = false := frozen_blk hbk 5
  have f9 : W1.frozen? ⟨w1.heap.size, 9, none⟩ = false := frozen_blk hbk 9
  have HBK := Lib.hid hbk
  have HBW := Lib.hid hbw
  clear hb1 hb1' h1v h2v hr4 cn hbk hbw hW1
  go_cut [] (fun wx => Below w1.heap.size w1 wx ∧ wx.heap[w1.heap.size]? = some (msO { ms0 with kind := 5, fr := b.id, «to» := k, term := b.term, index := b.base, prev := b.baseTerm, snap := b.snap } (.slice none 0 0)))
  case first =>
    go_region
    all_goals
      go_wp2_with fail
      go_meet
      exact over3 HBW.out HBK.out _ _ _ _ _ _
  case rest =>
    obtain ⟨hbc, hmc⟩ := hcut
    have hr := (hbc.block w.heap.size (blk_lt HR.out)).trans HR.out
    have hne : w.heap.size ≠ w1.heap.size := by have := blk_lt HR.out; omega
    have m0 : wc.cell? ⟨w1.heap.size, 0, none⟩ = some (.int .i64 5) := cell_blk hmc 0
    have m1 : wc.cell? ⟨w1.heap.size, 1, none⟩ = some (.int .i64 b.id) := cell_blk hmc 1
    have m2 : wc.cell? ⟨w1.heap.size, 2, none⟩ = some (.int .i64 k) := cell_blk hmc 2
    have m3 : wc.cell? ⟨w1.heap.size, 3, none⟩ = some (.int .i64 b.term) := cell_blk hmc 3
    have m4 : wc.cell? ⟨w1.heap.size, 4, none⟩ = some (.int .i64 b.base) := cell_blk hmc 4
    have m5 : wc.cell? ⟨w1.heap.size, 5, none⟩ = some (.int .i64 b.baseTerm) := cell_blk hmc 5
    have m6 : wc.cell? ⟨w1.heap.size, 6, none⟩ = some (.int .i64 0) := cell_blk hmc 6
    have m7 : wc.cell? ⟨w1.heap.size, 7, none⟩ = some (.bool false) := cell_blk hmc 7
    have m8 : wc.cell? ⟨w1.heap.size, 8, none⟩ = some (.slice none 0 0) := cell_blk hmc 8
    have m9 : wc.cell? ⟨w1.heap.size, 9, none⟩ = some (.string b.snap) := cell_blk hmc 9
    have r0 : wc.cell? ⟨w.heap.size, 0, none⟩ = some (.int .i64 0) := cell_blk hr 0
    have q0 : wc.frozen? ⟨w.heap.size, 0, none⟩ = false := frozen_blk hr 0
    have r1 : wc.cell? ⟨w.heap.size, 1, none⟩ = some (.int .i64 0) := cell_blk hr 1
    have q1 : wc.frozen? ⟨w.heap.size, 1, none⟩ = false := frozen_blk hr 1
    have r2 : wc.cell? ⟨w.heap.size, 2, none⟩ = some (.int .i64 0) := cell_blk hr 2
    have q2 : wc.frozen? ⟨w.heap.size, 2, none⟩ = false := frozen_blk hr 2
    have r3 : wc.cell? ⟨w.heap.size, 3, none⟩ = some (.int .i64 0) := cell_blk hr 3
    have q3 : wc.frozen? ⟨w.heap.size, 3, none⟩ = false := frozen_blk hr 3
    have r4 : wc.cell? ⟨w.heap.size, 4, none⟩ = some (.int .i64 0) := cell_blk hr 4
    have q4 : wc.frozen? ⟨w.heap.size, 4, none⟩ = false := frozen_blk hr 4
    have r5 : wc.cell? ⟨w.heap.size, 5, none⟩ = some (.int .i64 0) := cell_blk hr 5
    have q5 : wc.frozen? ⟨w.heap.size, 5, none⟩ = false := frozen_blk hr 5
    have r6 : wc.cell? ⟨w.heap.size, 6, none⟩ = some (.int .i64 0) := cell_blk hr 6
    have q6 : wc.frozen? ⟨w.heap.size, 6, none⟩ = false := frozen_blk hr 6
    have r7 : wc.cell? ⟨w.heap.size, 7, none⟩ = some (.bool false) := cell_blk hr 7
    have q7 : wc.frozen? ⟨w.heap.size, 7, none⟩ = false := frozen_blk hr 7
    have r8 : wc.cell? ⟨w.heap.size, 8, none⟩ = some (.slice none 0 0) := cell_blk hr 8
    have q8 : wc.frozen? ⟨w.heap.size, 8, none⟩ = false := frozen_blk hr 8
    have r9 : wc.cell? ⟨w.heap.size, 9, none⟩ = some (.string ⟨#[]⟩) := cell_blk hr 9
    have q9 : wc.frozen? ⟨w.heap.size, 9, none⟩ = false := frozen_blk hr 9
    have HBC := Lib.hid hbc
    have HRR := Lib.hid hr
    clear hbc hmc hr c4 c9 c10
    go_wp2
    obtain ⟨e1, e2⟩ := setMs_blk { ms0 with kind := 5, fr := b.id, «to» := k, term := b.term, index := b.base, prev := b.baseTerm, snap := b.snap } (.slice none 0 0) HRR.out
    refine bodyPost_ret (ret_ms rfl _ rfl e1) rfl ⟨.slice none 0 0, rfl, ?_, World.ownsRow_nil _ _ _ _⟩
    exact (H2.out.trans (HBC.out.mono H2.out.size)).trans (e2.toBelow (fun j hj q => by have q' : j = w.heap.size := q; omega) (by have := blk_lt HRR.out; omega))
end
end Go.Proofs.Ytmiagjcihmenfaa
