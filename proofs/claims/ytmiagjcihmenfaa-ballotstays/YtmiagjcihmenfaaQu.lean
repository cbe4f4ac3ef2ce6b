/- The walk of the program's letsBy. -/
import Derived.Test.YtmiagjcihmenfaaQm
namespace Go.Proofs.Ytmiagjcihmenfaa
open Go.RowKit

section
variable {w w' : World} {A : Nat} {S T : Nat → Prop} {b : Bs} {lv : Value} {pf : Int}
set_option maxHeartbeats 2000000 in
set_option maxRecDepth 100000 in
theorem letsBy_p (h : Pb w A S b) (m : Ms) (mv : Value) : Calls Try.prog 47 #[.pointer (some ⟨A, 0, none⟩), msV m mv] w fun e w' => e = .returned (.bool (decide (b.strange m))) ∧ Below w.heap.size w w' := by
  obtain ⟨W, hB⟩ := Bx.mk' h m mv
  have hA := hB.pb
  have HW := Lib.hid hB.eq
  have HBL := Lib.hid hB.bel
  have m0 : W.cell? ⟨w.heap.size, 0, none⟩ = some (.int .i64 m.kind) := cell_blk hB.blk 0
  have m1 : W.cell? ⟨w.heap.size, 1, none⟩ = some (.int .i64 m.fr) := cell_blk hB.blk 1
  have m2 : W.cell? ⟨w.heap.size, 2, none⟩ = some (.int .i64 m.to) := cell_blk hB.blk 2
  have m3 : W.cell? ⟨w.heap.size, 3, none⟩ = some (.int .i64 m.term) := cell_blk hB.blk 3
  have m4 : W.cell? ⟨w.heap.size, 4, none⟩ = some (.int .i64 m.index) := cell_blk hB.blk 4
  have m5 : W.cell? ⟨w.heap.size, 5, none⟩ = some (.int .i64 m.prev) := cell_blk hB.blk 5
  have m6 : W.cell? ⟨w.heap.size, 6, none⟩ = some (.int .i64 m.commit) := cell_blk hB.blk 6
  have hnode : ∀ n, Calls Try.prog 68 #[.pointer (some ⟨A, 0, none⟩), .int .i64 m.fr] (W.drewN n) fun e w' => e = .returned (.bool (decide (0 ≤ m.fr) && decide (m.fr ≤ b.size - 1))) ∧ ∃ k, w' = (W.drewN n).drewN k := fun n => by
    refine (isNode_any (hA.drewN n) m.fr).mono ?_
    rintro e w' ⟨rfl, rfl⟩
    exact ⟨rfl, 0, rfl⟩
  obtain ⟨lv, pf, hv⟩ := hA
  have c7 : W.cell? ⟨A, 7, none⟩ = some (.int .i64 b.id) := hv.cell 7
  have hsz := hv.sz
  obtain ⟨fb, hfb⟩ : ∃ fb, decide (m.to ≠ b.id ∨ m.fr = b.id ∨ ¬ (0 ≤ m.fr ∧ m.fr ≤ b.size - 1) ∨ m.kind < 1 ∨ 5 < m.kind) = fb := ⟨_, rfl⟩
  have HFB := Lib.hid hfb
  clear hv hB h hfb
  go_enter Try.func47, Try.ntmps47
  go_upto_region 1 with fail
  rw [← HW.out]
  go_cut [38] (fun v wx => v = .bool fb ∧ ∃ n, wx = W.drewN n)
  case first =>
    by_cases q1 : m.to = b.id
    · have hd1 : (m.to != (b.id : Int)) = false := by simpa using q1
      by_cases q2 : m.fr = b.id
      · have hd2 : (m.fr == (b.id : Int)) = true := by simpa using q2
        have hg : fb = true := HFB.out.symm.trans (decide_eq_true (by omega))
        subst hg
        go_quiet (fail)
        go_wp2_with fail
        go_meet
        exact ⟨rfl, _, rfl⟩
      · have hd2 : (m.fr == (b.id : Int)) = false := by simpa using q2
        by_cases q3 : 0 ≤ m.fr ∧ m.fr ≤ b.size - 1
        · rw [decide_eq_true q3.1, decide_eq_true q3.2] at hnode
          by_cases q4 : m.kind < 1
          · have hd4 : decide (m.kind < 1) = true := decide_eq_true q4
            have hg : fb = true := HFB.out.symm.trans (decide_eq_true (by omega))
            subst hg
            go_quiet ((go_at_call 68; exact Calls.quiet_of (hnode _)))
            go_wp2_with fail
            go_meet
            exact ⟨rfl, _, rfl⟩
          · have hd4 : decide (m.kind < 1) = false := decide_eq_false q4
            by_cases q5 : 5 < m.kind
            · have hd5 : decide (5 < m.kind) = true := decide_eq_true q5
              have hg : fb = true := HFB.out.symm.trans (decide_eq_true (by omega))
              subst hg
              go_quiet ((go_at_call 68; exact Calls.quiet_of (hnode _)))
              go_wp2_with fail
              go_meet
              exact ⟨rfl, _, rfl⟩
            · have hd5 : decide (5 < m.kind) = false := decide_eq_false q5
              have hg : fb = false := HFB.out.symm.trans (decide_eq_false (by omega))
              subst hg
              go_quiet ((go_at_call 68; exact Calls.quiet_of (hnode _)))
              go_wp2_with fail
              go_meet
              exact ⟨rfl, _, rfl⟩
        · have hnb : (decide (0 ≤ m.fr) && decide (m.fr ≤ b.size - 1)) = false := by
            by_cases z : 0 ≤ m.fr
            · rw [decide_eq_false (show ¬ m.fr ≤ b.size - 1 from fun y => q3 ⟨z, y⟩), Bool.and_false]
            · rw [decide_eq_false z, Bool.false_and]
          rw [hnb] at hnode
          have hg : fb = true := HFB.out.symm.trans (decide_eq_true (by omega))
          subst hg
          go_quiet ((go_at_call 68; exact Calls.quiet_of (hnode _)))
          go_wp2_with fail
          go_meet
          exact ⟨rfl, _, rfl⟩
    · have hd1 : (m.to != (b.id : Int)) = true := by simpa using q1
      have hg : fb = true := HFB.out.symm.trans (decide_eq_true (by omega))
      subst hg
      go_quiet (fail)
      go_wp2_with fail
      go_meet
      exact ⟨rfl, _, rfl⟩
  case rest =>
    obtain ⟨rfl, n, rfl⟩ := hcut
    clear hnode c7
    by_cases hf : m.to ≠ b.id ∨ m.fr = b.id ∨ ¬ (0 ≤ m.fr ∧ m.fr ≤ b.size - 1) ∨ m.kind < 1 ∨ 5 < m.kind
    · have hg : fb = true := HFB.out.symm.trans (decide_eq_true hf)
      subst hg
      have hs : b.strange m := by unfold Bs.strange; omega
      have HS := Lib.hid (decide_eq_true hs)
      clear hs hf
      go_wp2
      go_ret
      exact ⟨by rw [HS.out]; rfl, below_draw HBL.out n⟩
    · have hg : fb = false := HFB.out.symm.trans (decide_eq_false hf)
      subst hg
      by_cases hk : m.kind = 4
      · have hkb : (m.kind == 4) = true := by simpa using hk
        go_wp2_with fail
        refine (within_any _ _ _ _).mono ?_
        rintro et wt ⟨rfl, rfl⟩
        by_cases qt : 1 ≤ m.term ∧ m.term ≤ 1099511627776
        · rw [decide_eq_true qt.1, decide_eq_true qt.2]
          go_wp2_with fail
          refine (within_any _ _ _ _).mono ?_
          rintro ei wi ⟨rfl, rfl⟩
          by_cases qi : -1 ≤ m.index ∧ m.index ≤ 1099511627776
          · rw [decide_eq_true qi.1, decide_eq_true qi.2]
            go_wp2_with fail
            refine (within_any _ _ _ _).mono ?_
            rintro ep wp ⟨rfl, rfl⟩
            by_cases qp : 0 ≤ m.prev ∧ m.prev ≤ 1099511627776
            · rw [decide_eq_true qp.1, decide_eq_true qp.2]
              go_wp2_with fail
              refine (within_any _ _ _ _).mono ?_
              rintro ec wc ⟨rfl, rfl⟩
              by_cases qc : 0 ≤ m.commit ∧ m.commit ≤ 1099511627776
              · rw [decide_eq_true qc.1, decide_eq_true qc.2]
                go_wp2
                go_ret
                exact ⟨by rw [decide_eq_false (show ¬ b.strange m by unfold Bs.strange; omega)]; rfl, below_draw HBL.out n⟩
              · have hbc : (decide (0 ≤ m.commit) && decide (m.commit ≤ 1099511627776)) = false := by
                  by_cases z : 0 ≤ m.commit
                  · rw [decide_eq_false (show ¬ m.commit ≤ 1099511627776 from fun y => qc ⟨z, y⟩), Bool.and_false]
                  · rw [decide_eq_false z, Bool.false_and]
                rw [hbc]
                go_wp2
                go_ret
                exact ⟨by rw [decide_eq_true (show b.strange m by unfold Bs.strange; omega)]; rfl, below_draw HBL.out n⟩
            · have hbp : (decide (0 ≤ m.prev) && decide (m.prev ≤ 1099511627776)) = false := by
                by_cases z : 0 ≤ m.prev
                · rw [decide_eq_false (show ¬ m.prev ≤ 1099511627776 from fun y => qp ⟨z, y⟩), Bool.and_false]
                · rw [decide_eq_false z, Bool.false_and]
              rw [hbp]
              go_wp2
              go_ret
              exact ⟨by rw [decide_eq_true (show b.strange m by unfold Bs.strange; omega)]; rfl, below_draw HBL.out n⟩
          · have hbi : (decide (-1 ≤ m.index) && decide (m.index ≤ 1099511627776)) = false := by
              by_cases z : -1 ≤ m.index
              · rw [decide_eq_false (show ¬ m.index ≤ 1099511627776 from fun y => qi ⟨z, y⟩), Bool.and_false]
              · rw [decide_eq_false z, Bool.false_and]
            rw [hbi]
            go_wp2
            go_ret
            exact ⟨by rw [decide_eq_true (show b.strange m by unfold Bs.strange; omega)]; rfl, below_draw HBL.out n⟩
        · have hbt : (decide (1 ≤ m.term) && decide (m.term ≤ 1099511627776)) = false := by
            by_cases z : 1 ≤ m.term
            · rw [decide_eq_false (show ¬ m.term ≤ 1099511627776 from fun y => qt ⟨z, y⟩), Bool.and_false]
            · rw [decide_eq_false z, Bool.false_and]
          rw [hbt]
          go_wp2
          go_ret
          exact ⟨by rw [decide_eq_true (show b.strange m by unfold Bs.strange; omega)]; rfl, below_draw HBL.out n⟩
      · have hkb : (m.kind == 4) = false := by simpa using hk
        go_wp2_with fail
        refine (within_any _ _ _ _).mono ?_
        rintro et wt ⟨rfl, rfl⟩
        by_cases qt : 1 ≤ m.term ∧ m.term ≤ 1099511627776
        · rw [decide_eq_true qt.1, decide_eq_true qt.2]
          go_wp2_with fail
          refine (within_any _ _ _ _).mono ?_
          rintro ei wi ⟨rfl, rfl⟩
          by_cases qi : 0 ≤ m.index ∧ m.index ≤ 1099511627776
          · rw [decide_eq_true qi.1, decide_eq_true qi.2]
            go_wp2_with fail
            refine (within_any _ _ _ _).mono ?_
            rintro ep wp ⟨rfl, rfl⟩
            by_cases qp : 0 ≤ m.prev ∧ m.prev ≤ 1099511627776
            · rw [decide_eq_true qp.1, decide_eq_true qp.2]
              go_wp2_with fail
              refine (within_any _ _ _ _).mono ?_
              rintro ec wc ⟨rfl, rfl⟩
              by_cases qc : 0 ≤ m.commit ∧ m.commit ≤ 1099511627776
              · rw [decide_eq_true qc.1, decide_eq_true qc.2]
                go_wp2
                go_ret
                exact ⟨by rw [decide_eq_false (show ¬ b.strange m by unfold Bs.strange; omega)]; rfl, below_draw HBL.out n⟩
              · have hbc : (decide (0 ≤ m.commit) && decide (m.commit ≤ 1099511627776)) = false := by
                  by_cases z : 0 ≤ m.commit
                  · rw [decide_eq_false (show ¬ m.commit ≤ 1099511627776 from fun y => qc ⟨z, y⟩), Bool.and_false]
                  · rw [decide_eq_false z, Bool.false_and]
                rw [hbc]
                go_wp2
                go_ret
                exact ⟨by rw [decide_eq_true (show b.strange m by unfold Bs.strange; omega)]; rfl, below_draw HBL.out n⟩
            · have hbp : (decide (0 ≤ m.prev) && decide (m.prev ≤ 1099511627776)) = false := by
                by_cases z : 0 ≤ m.prev
                · rw [decide_eq_false (show ¬ m.prev ≤ 1099511627776 from fun y => qp ⟨z, y⟩), Bool.and_false]
                · rw [decide_eq_false z, Bool.false_and]
              rw [hbp]
              go_wp2
              go_ret
              exact ⟨by rw [decide_eq_true (show b.strange m by unfold Bs.strange; omega)]; rfl, below_draw HBL.out n⟩
          · have hbi : (decide (0 ≤ m.index) && decide (m.index ≤ 1099511627776)) = false := by
              by_cases z : 0 ≤ m.index
              · rw [decide_eq_false (show ¬ m.index ≤ 1099511627776 from fun y => qi ⟨z, y⟩), Bool.and_false]
              · rw [decide_eq_false z, Bool.false_and]
            rw [hbi]
            go_wp2
            go_ret
            exact ⟨by rw [decide_eq_true (show b.strange m by unfold Bs.strange; omega)]; rfl, below_draw HBL.out n⟩
        · have hbt : (decide (1 ≤ m.term) && decide (m.term ≤ 1099511627776)) = false := by
            by_cases z : 1 ≤ m.term
            · rw [decide_eq_false (show ¬ m.term ≤ 1099511627776 from fun y => qt ⟨z, y⟩), Bool.and_false]
            · rw [decide_eq_false z, Bool.false_and]
          rw [hbt]
          go_wp2
          go_ret
          exact ⟨by rw [decide_eq_true (show b.strange m by unfold Bs.strange; omega)]; rfl, below_draw HBL.out n⟩
end
end Go.Proofs.Ytmiagjcihmenfaa
