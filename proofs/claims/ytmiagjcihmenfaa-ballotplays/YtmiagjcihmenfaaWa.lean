/- The walk of the document's Strange. -/
import Derived.Test.YtmiagjcihmenfaaXe
import Derived.Deep.DeepCutAuto
namespace Go.Proofs.Ytmiagjcihmenfaa
open Go.RowKit

section
variable {w w' : World} {A : Nat} {S T : Nat → Prop} {b : Bs}
set_option maxHeartbeats 8000000 in
set_option maxRecDepth 100000 in
theorem strange_any (h : Rb w A S b) (m : Ms) (mad : Option Addr) (mcap : Nat) : Calls Try.prog 62 #[.pointer (some ⟨A, 0, none⟩), msV m (.slice mad m.list.length mcap)] w fun e w' => e = .returned (.bool (decide (b.strange m))) ∧ Below w.heap.size w w' := by
  obtain ⟨G, hG⟩ : ∃ G, decide (b.strange m) = G := ⟨_, rfl⟩
  rw [hG]
  have HG := Lib.hid hG
  clear hG
  obtain ⟨W, hW⟩ : ∃ W, W = w.alloc (.cells #[.int .i64 m.kind, .int .i64 m.fr, .int .i64 m.tgt, .int .i64 m.term, .int .i64 m.index, .int .i64 m.prev, .int .i64 m.commit, .bool m.good, .slice mad m.list.length mcap, .string m.snap] 34) := ⟨_, rfl⟩
  obtain ⟨Y, hY⟩ : ∃ Y, w.heap.size = Y := ⟨_, rfl⟩
  have hb : Below w.heap.size w W := by rw [hW]; exact (Below.refl _ w).alloc (Nat.le_refl _) _
  have jY : W.heap[Y]? = some (.cells #[.int .i64 m.kind, .int .i64 m.fr, .int .i64 m.tgt, .int .i64 m.term, .int .i64 m.index, .int .i64 m.prev, .int .i64 m.commit, .bool m.good, .slice mad m.list.length mcap, .string m.snap] 34 (0, 0)) := by rw [hW, ← hY]; exact heap_alloc_new w _
  obtain ⟨lv, ov, O, hv⟩ := h.on hb
  have c0 : W.cell? ⟨A, 0, none⟩ = some (.int .i64 b.id) := hv.cell 0
  have c1 : W.cell? ⟨A, 1, none⟩ = some (.int .i64 b.size) := hv.cell 1
  have m0 : W.cell? ⟨Y, 0, none⟩ = some (.int .i64 m.kind) := cell_blk jY 0
  have m1 : W.cell? ⟨Y, 1, none⟩ = some (.int .i64 m.fr) := cell_blk jY 1
  have m2 : W.cell? ⟨Y, 2, none⟩ = some (.int .i64 m.tgt) := cell_blk jY 2
  have m3 : W.cell? ⟨Y, 3, none⟩ = some (.int .i64 m.term) := cell_blk jY 3
  have m4 : W.cell? ⟨Y, 4, none⟩ = some (.int .i64 m.index) := cell_blk jY 4
  have m5 : W.cell? ⟨Y, 5, none⟩ = some (.int .i64 m.prev) := cell_blk jY 5
  have m6 : W.cell? ⟨Y, 6, none⟩ = some (.int .i64 m.commit) := cell_blk jY 6
  obtain ⟨f1, hf1⟩ : ∃ f1, decide (m.tgt ≠ b.id ∨ m.fr = b.id ∨ m.fr < 0 ∨ (b.size : Int) ≤ m.fr ∨ m.kind < 1 ∨ 5 < m.kind ∨ m.term < 1 ∨ 1099511627776 < m.term) = f1 := ⟨_, rfl⟩
  have HF1 := Lib.hid hf1
  have HW := Lib.hid hW
  have HY := Lib.hid hY
  have HB := Lib.hid hb
  clear hW hY hb jY hv h hf1
  go_enter Try.func62, Try.ntmps62
  go_upto_region 1 with fail
  rw [← HW.out, HY.out]
  go_cut [54] (fun v wx => v = .bool f1 ∧ ∃ n, wx = W.drewN n)
  case first =>
    by_cases q1 : m.tgt ≠ (b.id : Int)
    · have hq1 : (m.tgt != (b.id : Int)) = true := by simpa using q1
      have hg : f1 = true := HF1.out.symm.trans (decide_eq_true (by omega))
      subst hg
      go_quiet (fail)
      go_wp2_with fail
      go_meet
      exact ⟨rfl, _, rfl⟩
    · have hq1 : (m.tgt != (b.id : Int)) = false := by simpa using q1
      by_cases q2 : m.fr = (b.id : Int)
      · have hq2 : (m.fr == (b.id : Int)) = true := by simpa using q2
        have hg : f1 = true := HF1.out.symm.trans (decide_eq_true (by omega))
        subst hg
        go_quiet (fail)
        go_wp2_with fail
        go_meet
        exact ⟨rfl, _, rfl⟩
      · have hq2 : (m.fr == (b.id : Int)) = false := by simpa using q2
        by_cases q3 : m.fr < 0
        · have hq3 : decide (m.fr < 0) = true := decide_eq_true q3
          have hg : f1 = true := HF1.out.symm.trans (decide_eq_true (by omega))
          subst hg
          go_quiet (fail)
          go_wp2_with fail
          go_meet
          exact ⟨rfl, _, rfl⟩
        · have hq3 : decide (m.fr < 0) = false := decide_eq_false q3
          by_cases q4 : (b.size : Int) ≤ m.fr
          · have hq4 : decide ((b.size : Int) ≤ m.fr) = true := decide_eq_true q4
            have hg : f1 = true := HF1.out.symm.trans (decide_eq_true (by omega))
            subst hg
            go_quiet (fail)
            go_wp2_with fail
            go_meet
            exact ⟨rfl, _, rfl⟩
          · have hq4 : decide ((b.size : Int) ≤ m.fr) = false := decide_eq_false q4
            by_cases q5 : m.kind < 1
            · have hq5 : decide (m.kind < 1) = true := decide_eq_true q5
              have hg : f1 = true := HF1.out.symm.trans (decide_eq_true (by omega))
              subst hg
              go_quiet (fail)
              go_wp2_with fail
              go_meet
              exact ⟨rfl, _, rfl⟩
            · have hq5 : decide (m.kind < 1) = false := decide_eq_false q5
              by_cases q6 : 5 < m.kind
              · have hq6 : decide (5 < m.kind) = true := decide_eq_true q6
                have hg : f1 = true := HF1.out.symm.trans (decide_eq_true (by omega))
                subst hg
                go_quiet (fail)
                go_wp2_with fail
                go_meet
                exact ⟨rfl, _, rfl⟩
              · have hq6 : decide (5 < m.kind) = false := decide_eq_false q6
                by_cases q7 : m.term < 1
                · have hq7 : decide (m.term < 1) = true := decide_eq_true q7
                  have hg : f1 = true := HF1.out.symm.trans (decide_eq_true (by omega))
                  subst hg
                  go_quiet (fail)
                  go_wp2_with fail
                  go_meet
                  exact ⟨rfl, _, rfl⟩
                · have hq7 : decide (m.term < 1) = false := decide_eq_false q7
                  by_cases q8 : 1099511627776 < m.term
                  · have hq8 : decide (1099511627776 < m.term) = true := decide_eq_true q8
                    have hg : f1 = true := HF1.out.symm.trans (decide_eq_true (by omega))
                    subst hg
                    go_quiet (fail)
                    go_wp2_with fail
                    go_meet
                    exact ⟨rfl, _, rfl⟩
                  · have hq8 : decide (1099511627776 < m.term) = false := decide_eq_false q8
                    have hg : f1 = false := HF1.out.symm.trans (decide_eq_false (by omega))
                    subst hg
                    go_quiet (fail)
                    go_wp2_with fail
                    go_meet
                    exact ⟨rfl, _, rfl⟩
  case rest =>
    obtain ⟨rfl, n, rfl⟩ := hcut
    cases f1 with
    | true =>
      have ht := of_decide_eq_true HF1.out
      have hs : G = true := HG.out.symm.trans (decide_eq_true (by unfold Bs.strange; omega))
      subst hs
      go_wp2
      go_ret
      exact ⟨rfl, below_draw HB.out n⟩
    | false =>
      have ht := of_decide_eq_false HF1.out
      by_cases p1 : m.index < -1
      · have hs : G = true := HG.out.symm.trans (decide_eq_true (by unfold Bs.strange; omega))
        subst hs
        go_wp2
        go_ret
        exact ⟨rfl, below_draw HB.out n⟩
      · by_cases p2 : m.index = -1
        · by_cases p3 : m.kind = 4
          · have hp2 : (m.index == -1) = true := by simpa using p2
            have hp3 : (m.kind != 4) = false := by simpa using p3
            have hr1 : decide (1099511627776 < m.index) = false := decide_eq_false (by omega)
            by_cases r2 : m.prev < 0
            · have hr2 : decide (m.prev < 0) = true := decide_eq_true r2
              have hs : G = true := HG.out.symm.trans (decide_eq_true (by unfold Bs.strange; omega))
              subst hs
              go_wp2
              go_ret
              exact ⟨rfl, below_draw HB.out n⟩
            · have hr2 : decide (m.prev < 0) = false := decide_eq_false r2
              by_cases r3 : 1099511627776 < m.prev
              · have hr3 : decide (1099511627776 < m.prev) = true := decide_eq_true r3
                have hs : G = true := HG.out.symm.trans (decide_eq_true (by unfold Bs.strange; omega))
                subst hs
                go_wp2
                go_ret
                exact ⟨rfl, below_draw HB.out n⟩
              · have hr3 : decide (1099511627776 < m.prev) = false := decide_eq_false r3
                by_cases r4 : m.commit < 0
                · have hr4 : decide (m.commit < 0) = true := decide_eq_true r4
                  have hs : G = true := HG.out.symm.trans (decide_eq_true (by unfold Bs.strange; omega))
                  subst hs
                  go_wp2
                  go_ret
                  exact ⟨rfl, below_draw HB.out n⟩
                · have hr4 : decide (m.commit < 0) = false := decide_eq_false r4
                  by_cases r5 : 1099511627776 < m.commit
                  · have hr5 : decide (1099511627776 < m.commit) = true := decide_eq_true r5
                    have hs : G = true := HG.out.symm.trans (decide_eq_true (by unfold Bs.strange; omega))
                    subst hs
                    go_wp2
                    go_ret
                    exact ⟨rfl, below_draw HB.out n⟩
                  · have hr5 : decide (1099511627776 < m.commit) = false := decide_eq_false r5
                    have hs : G = false := HG.out.symm.trans (decide_eq_false (by unfold Bs.strange; omega))
                    subst hs
                    go_wp2
                    go_ret
                    exact ⟨rfl, below_draw HB.out n⟩
          · have hp2 : (m.index == -1) = true := by simpa using p2
            have hp3 : (m.kind != 4) = true := by simpa using p3
            have hs : G = true := HG.out.symm.trans (decide_eq_true (by unfold Bs.strange; omega))
            subst hs
            go_wp2
            go_ret
            exact ⟨rfl, below_draw HB.out n⟩
        · have hp2 : (m.index == -1) = false := by simpa using p2
          by_cases r1 : 1099511627776 < m.index
          · have hr1 : decide (1099511627776 < m.index) = true := decide_eq_true r1
            have hs : G = true := HG.out.symm.trans (decide_eq_true (by unfold Bs.strange; omega))
            subst hs
            go_wp2
            go_ret
            exact ⟨rfl, below_draw HB.out n⟩
          · have hr1 : decide (1099511627776 < m.index) = false := decide_eq_false r1
            by_cases r2 : m.prev < 0
            · have hr2 : decide (m.prev < 0) = true := decide_eq_true r2
              have hs : G = true := HG.out.symm.trans (decide_eq_true (by unfold Bs.strange; omega))
              subst hs
              go_wp2
              go_ret
              exact ⟨rfl, below_draw HB.out n⟩
            · have hr2 : decide (m.prev < 0) = false := decide_eq_false r2
              by_cases r3 : 1099511627776 < m.prev
              · have hr3 : decide (1099511627776 < m.prev) = true := decide_eq_true r3
                have hs : G = true := HG.out.symm.trans (decide_eq_true (by unfold Bs.strange; omega))
                subst hs
                go_wp2
                go_ret
                exact ⟨rfl, below_draw HB.out n⟩
              · have hr3 : decide (1099511627776 < m.prev) = false := decide_eq_false r3
                by_cases r4 : m.commit < 0
                · have hr4 : decide (m.commit < 0) = true := decide_eq_true r4
                  have hs : G = true := HG.out.symm.trans (decide_eq_true (by unfold Bs.strange; omega))
                  subst hs
                  go_wp2
                  go_ret
                  exact ⟨rfl, below_draw HB.out n⟩
                · have hr4 : decide (m.commit < 0) = false := decide_eq_false r4
                  by_cases r5 : 1099511627776 < m.commit
                  · have hr5 : decide (1099511627776 < m.commit) = true := decide_eq_true r5
                    have hs : G = true := HG.out.symm.trans (decide_eq_true (by unfold Bs.strange; omega))
                    subst hs
                    go_wp2
                    go_ret
                    exact ⟨rfl, below_draw HB.out n⟩
                  · have hr5 : decide (1099511627776 < m.commit) = false := decide_eq_false r5
                    have hs : G = false := HG.out.symm.trans (decide_eq_false (by unfold Bs.strange; omega))
                    subst hs
                    go_wp2
                    go_ret
                    exact ⟨rfl, below_draw HB.out n⟩
end
end Go.Proofs.Ytmiagjcihmenfaa
