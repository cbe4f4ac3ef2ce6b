/- The walk of the program's takeFeed where the log is another one. -/
import Derived.Test.YtmiagjcihmenfaaXh
namespace Go.Proofs.Ytmiagjcihmenfaa
open Go.RowKit

section
variable {w w' : World} {A : Nat} {S T : Nat → Prop} {b : Bs} {lv : Value} {pf : Int}
set_option maxHeartbeats 4000000 in
set_option maxRecDepth 100000 in
theorem takeFeed_r (h : Pb w A S b) (ok : Ok b) (m : Ms) {mad : Option Addr} {mcap : Nat} (hE : Es w S m.list (.slice mad m.list.length mcap)) (hz : b.log.length + m.list.length ≤ 900000) (hi0 : 0 ≤ m.index) (hi1 : m.index ≤ 1099511627776) (hr : b.role ≠ 2) (h1n : ¬ m.index + m.list.length ≤ b.commit) (hc1 : b.commit ≤ m.index ∧ b.termAt m.index ≠ m.prev) : Calls Try.prog 76 #[.pointer (some ⟨A, 0, none⟩), msV m (.slice mad m.list.length mcap)] w fun e w' => ∃ ov, e = .returned ov ∧ Po w w' A S (b.entries m).sent.1 (b.entries m).sent.2 ov := by
  have HN1 := Lib.hid h1n
  have HC1 := Lib.hid hc1
  clear h1n hc1
  have hlt := h.lt
  obtain ⟨W, hB⟩ := Bx.mk' h m (.slice mad m.list.length mcap)
  have hA := hB.pb
  have HW := Lib.hid hB.eq
  have hfw : Fr w W S := Fr.ofBelow S hB.bel
  obtain ⟨lv, pf, hv⟩ := hA
  have hA : Pb W A S b := ⟨lv, pf, hv⟩
  have c2 : W.cell? ⟨A, 2, none⟩ = some (.int .i64 b.role) := hv.cell 2
  have m1 : W.cell? ⟨w.heap.size, 1, none⟩ = some (.int .i64 m.fr) := cell_blk hB.blk 1
  have hfo := follow_any hA m.fr
  have HB := Lib.hid hB
  have hI := ok.inv
  have ho := ok.out
  obtain ⟨l1, b0, b1⟩ := h.len
  have hll : b.last ≤ 4398047411104 ∧ 0 ≤ b.last := by unfold Bs.last; omega
  have hcl := hI.cl
  have hbc := hI.bc
  clear hv hB hA h
  go_enter Try.func76, Try.ntmps76
  go_upto_region 1 with fail
  rw [← HW.out]
  go_wp2_with fail
  refine hfo.mono ?_
  rintro e1 w1 ⟨rfl, p1, f1⟩
  clear hfo m1 c2
  have hmb := HB.out.stay hlt f1
  have hf1 : Fr w w1 S := hfw.trans f1
  have hE1 := hE.stays (S' := S) hf1 (fun _ q => .inl q)
  have k1 : w1.cell? ⟨w.heap.size, 1, none⟩ = some (.int .i64 m.fr) := cell_blk hmb 1
  have k4 : w1.cell? ⟨w.heap.size, 4, none⟩ = some (.int .i64 m.index) := cell_blk hmb 4
  have k5 : w1.cell? ⟨w.heap.size, 5, none⟩ = some (.int .i64 m.prev) := cell_blk hmb 5
  have k6 : w1.cell? ⟨w.heap.size, 6, none⟩ = some (.int .i64 m.commit) := cell_blk hmb 6
  have k8 : w1.cell? ⟨w.heap.size, 8, none⟩ = some (.slice mad m.list.length mcap) := cell_blk hmb 8
  obtain ⟨X, hX⟩ : ∃ X, ({ b with role := 0, lead := m.fr } : Bs) = X := ⟨_, rfl⟩
  rw [hX] at p1
  have hXb : X.base = b.base ∧ X.commit = b.commit ∧ X.log = b.log ∧ X.last = b.last ∧ X.id = b.id ∧ X.term = b.term := by rw [← hX]; exact ⟨rfl, rfl, rfl, rfl, rfl, rfl⟩
  have hXt : ∀ i, X.termAt i = b.termAt i := by intro i; rw [← hX]; rfl
  have hmk : ∀ q, mk b q = mk X q := by intro q; unfold mk; rw [hXb.2.2.2.2.1, hXb.2.2.2.2.2]
  obtain ⟨lv1, pf1, hv1⟩ := p1
  have p1 : Pb w1 A S X := ⟨lv1, pf1, hv1⟩
  have c6 : w1.cell? ⟨A, 6, none⟩ = some (.int .i64 b.commit) := by rw [← hXb.2.1]; exact hv1.cell 6
  have c5 : w1.cell? ⟨A, 5, none⟩ = some (.int .i64 b.last) := by rw [← hXb.2.2.2.1]; exact hv1.cell 5
  obtain ⟨n, hn⟩ : ∃ n, m.list.length = n := ⟨_, rfl⟩
  obtain ⟨en, hen⟩ : ∃ en, m.index + (n : Int) = en := ⟨_, rfl⟩
  have w1e : IntKind.i64.wrap (m.index + (n : Int)) = en := by rw [IntKind.wrap_i64]; omega
  have w1e' : wrap64 (m.index + (n : Int)) = en := (IntWalk.wrap64_in _ ⟨by omega, by omega⟩).trans hen
  have hcalls : ∀ V tt i good Y, Pb V A S Y → Fr w V S → Y.id = b.id → Y.term = b.term → (b.entries m).sent = (Y, [mk b { ms0 with kind := 4, tgt := tt, good := good, index := i }]) → Calls Try.prog 73 #[.pointer (some ⟨A, 0, none⟩), .int .i64 tt, .bool good, .int .i64 i] V fun e w' => ∃ ov, e = .returned ov ∧ Po w w' A S (b.entries m).sent.1 (b.entries m).sent.2 ov := by
    intro V tt i good Y q1 q2 q3 q4 q5
    refine (fed_po q1 tt i good).mono ?_
    rintro e w' ⟨ov, rfl, q⟩
    rw [q5]
    refine ⟨ov, rfl, Po.step q2 ?_⟩
    have : mk b { ms0 with kind := 4, tgt := tt, good := good, index := i } = mk Y { ms0 with kind := 4, tgt := tt, good := good, index := i } := by unfold mk; rw [q3, q4]
    rw [this]
    exact q
  have h1n : ¬ m.index + m.list.length ≤ b.commit := by have := HN1.out; omega
  have hc1 : b.commit ≤ m.index ∧ b.termAt m.index ≠ m.prev := by have := HC1.out; exact ⟨this.1, this.2⟩
  have hc0 : ¬ en ≤ b.commit := by rw [← hen, ← hn]; exact h1n
  obtain ⟨mn, hmn⟩ : ∃ mn, min b.last (m.index - 1) = mn := ⟨_, rfl⟩
  have heq : (b.entries m).sent = (X, [mk b { ms0 with kind := 4, tgt := m.fr, good := false, index := mn }]) := by
    unfold Bs.entries
    rw [if_neg hr]
    simp only
    rw [if_neg h1n, if_pos hc1, hX, hmn, sent_one X _ (by rw [← hX]; exact ho), hmk]
  have HC : Hid (∀ n, Calls Try.prog 73 #[.pointer (some ⟨A, 0, none⟩), .int .i64 m.fr, .bool false, .int .i64 mn] (w1.drewN n) fun e w' => ∃ ov, e = .returned ov ∧ Po w w' A S (b.entries m).sent.1 (b.entries m).sent.2 ov) := fun n => hcalls (w1.drewN n) m.fr mn false X (p1.drewN n) (hf1.drewN n) hXb.2.2.2.2.1 hXb.2.2.2.2.2 heq
  have hhas : ∀ n, Calls Try.prog 83 #[.pointer (some ⟨A, 0, none⟩), .int .i64 m.index, .int .i64 m.prev] (w1.drewN n) fun e w' => e = .returned (.bool false) ∧ ∃ k, w' = (w1.drewN n).drewN k := fun n => by
    have := has_any (p1.drewN n) m.index m.prev
    rwa [decide_eq_false (fun q => hc1.2 ((hXt _).symm.trans q.2.2))] at this
  have hd : decide (b.commit ≤ m.index) = true := decide_eq_true hc1.1
  have wi : IntKind.i64.wrap (m.index - 1) = m.index - 1 := by rw [IntKind.wrap_i64]; omega
  rw [hn] at k8
  have HM := Lib.hid hmn
  clear hv1 hcalls heq hX hmb hf1 f1 hXb hXt hmk hn hen p1 hE hE1 hI ok hc1 hmn h1n
  go_wp2
  go_quiet ((go_at_call 83; exact Calls.quiet_of (hhas _)))
  go_wp2
  clear hhas
  by_cases q1 : m.index - 1 < b.last
  · have emn : mn = m.index - 1 := by have := HM.out; omega
    subst emn
    go_cut [4] (fun v wx => Po w wx A S (b.entries m).sent.1 (b.entries m).sent.2 v)
    case first =>
      go_region_with (go_at_call 73; refine (HC.out _).mono ?_; rintro e' w' ⟨ov, rfl, q⟩)
      all_goals
        go_wp2_with fail
        go_meet
        exact q
    case rest =>
      have HQ := Lib.hid hcut
      clear hcut HC
      go_wp2
      go_ret
      exact ⟨_, rfl, HQ.out⟩
  · have emn : mn = b.last := by have := HM.out; omega
    rw [emn] at HC
    go_cut [4] (fun v wx => Po w wx A S (b.entries m).sent.1 (b.entries m).sent.2 v)
    case first =>
      go_region_with (go_at_call 73; refine (HC.out _).mono ?_; rintro e' w' ⟨ov, rfl, q⟩)
      all_goals
        go_wp2_with fail
        go_meet
        exact q
    case rest =>
      have HQ := Lib.hid hcut
      clear hcut HC
      go_wp2
      go_ret
      exact ⟨_, rfl, HQ.out⟩
end
end Go.Proofs.Ytmiagjcihmenfaa
