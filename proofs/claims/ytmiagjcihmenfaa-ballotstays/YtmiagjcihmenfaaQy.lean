/- The walk of the program's Take, whole. -/
import Derived.Test.YtmiagjcihmenfaaQw
import Derived.Test.YtmiagjcihmenfaaQx
namespace Go.Proofs.Ytmiagjcihmenfaa
open Go.RowKit

section
variable {w w' : World} {A : Nat} {S T : Nat → Prop} {b : Bs} {lv : Value} {pf : Int}
set_option maxHeartbeats 40000000 in
set_option maxRecDepth 100000 in
theorem take_p (h : Pb w A S b) (ok : Ok b) (m : Ms) {mad : Option Addr} {mcap : Nat} (hE : Es w S m.list (.slice mad m.list.length mcap)) (hz : b.log.length + m.list.length + 1 ≤ 900000) : Calls Try.prog 26 #[.pointer (some ⟨A, 0, none⟩), msV m (.slice mad m.list.length mcap)] w fun e w' => ∃ ov, e = .returned ov ∧ Po w w' A S (b.take m).1 (b.take m).2 ov := by
  have hlt := h.lt
  obtain ⟨W, hB⟩ := Bx.mk' h m (.slice mad m.list.length mcap)
  have hA := hB.pb
  have HW := Lib.hid hB.eq
  have hfw : Fr w W S := Fr.ofBelow S hB.bel
  have hlb := letsBy_p hA m (.slice mad m.list.length mcap)
  have hmW := hB.blk
  have m0 : W.cell? ⟨w.heap.size, 0, none⟩ = some (.int .i64 m.kind) := cell_blk hB.blk 0
  have m1 : W.cell? ⟨w.heap.size, 1, none⟩ = some (.int .i64 m.fr) := cell_blk hB.blk 1
  have m2 : W.cell? ⟨w.heap.size, 2, none⟩ = some (.int .i64 m.to) := cell_blk hB.blk 2
  have m3 : W.cell? ⟨w.heap.size, 3, none⟩ = some (.int .i64 m.term) := cell_blk hB.blk 3
  have m4 : W.cell? ⟨w.heap.size, 4, none⟩ = some (.int .i64 m.index) := cell_blk hB.blk 4
  have m5 : W.cell? ⟨w.heap.size, 5, none⟩ = some (.int .i64 m.prev) := cell_blk hB.blk 5
  have m6 : W.cell? ⟨w.heap.size, 6, none⟩ = some (.int .i64 m.commit) := cell_blk hB.blk 6
  have m7 : W.cell? ⟨w.heap.size, 7, none⟩ = some (.bool m.good) := cell_blk hB.blk 7
  have m8 : W.cell? ⟨w.heap.size, 8, none⟩ = some (.slice mad m.list.length mcap) := cell_blk hB.blk 8
  have m9 : W.cell? ⟨w.heap.size, 9, none⟩ = some (.string m.snap) := cell_blk hB.blk 9
  by_cases hs : b.strange m
  · have etk : b.take m = (b, []) := if_pos hs
    rw [decide_eq_true hs] at hlb
    have HP : Hid (∀ V, Below W.heap.size W V → Po w V A S (b.take m).1 (b.take m).2 (.slice none 0 0)) := by
      intro V hV
      rw [etk]
      exact Po.step (hfw.below hV) (Po.none (hA.on hV))
    clear hB hA hfw etk h hs hE ok hmW
    go_enter Try.func26, Try.ntmps26
    go_upto_region 1 with fail
    rw [← HW.out]
    go_wp2_with fail
    refine hlb.mono ?_
    rintro e1 w1 ⟨rfl, hb1⟩
    have HQ := Lib.hid (HP.out w1 hb1)
    clear hlb hb1 HP
    go_wp2
    go_ret
    exact ⟨_, rfl, HQ.out⟩
  · by_cases ht : b.term < m.term
    · exact take_new h ok m hE hz hs ht
    · exact take_same h ok m hE hz hs ht
end
end Go.Proofs.Ytmiagjcihmenfaa
