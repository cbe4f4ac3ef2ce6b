/- The walk of the program's takeFeed. -/
import Derived.Test.YtmiagjcihmenfaaQp
namespace Go.Proofs.Ytmiagjcihmenfaa
open Go.RowKit

section
variable {w w' : World} {A : Nat} {S T : Nat → Prop} {b : Bs} {lv : Value} {pf : Int}
theorem lay_skip (X : Bs) : ∀ (j : Nat) (i : Int) (l : List En), j ≤ l.length → i + j ≤ X.commit + 1 → X.lay i l = X.lay (i + j) (l.drop j)
  | 0, i, l, _, _ => by simp
  | j + 1, i, [], h, _ => by simp at h
  | j + 1, i, e :: l, h, hc => by
    have e1 : X.lay i (e :: l) = X.lay (i + 1) l := by
      show (if X.commit < i ∧ (X.last < i ∨ X.termAt i ≠ e.term) then _ else _) = _
      rw [if_neg (fun q => by have := q.1; omega)]
    rw [e1, lay_skip X j (i + 1) l (by simpa using h) (by omega)]
    simp only [List.drop_succ_cons]
    congr 1
    omega
theorem lay_same (X : Bs) : ∀ (l : List En) (i : Int), (X.lay i l).commit = X.commit ∧ (X.lay i l).id = X.id ∧ (X.lay i l).term = X.term ∧ (X.lay i l).out = X.out
  | [], i => ⟨rfl, rfl, rfl, rfl⟩
  | e :: l, i => by
    unfold Bs.lay
    split
    · exact ⟨rfl, rfl, rfl, rfl⟩
    · exact lay_same X l (i + 1)
theorem reach_same (X : Bs) (c : Int) : (X.reach c).id = X.id ∧ (X.reach c).term = X.term ∧ (X.reach c).out = X.out ∧ (X.reach c).log = X.log ∧ (X.reach c).base = X.base ∧ (X.reach c).size = X.size ∧ (X.reach c).commit = max X.commit c := by
  unfold Bs.reach
  split
  · exact ⟨rfl, rfl, rfl, rfl, rfl, rfl, by show c = max X.commit c; omega⟩
  · exact ⟨rfl, rfl, rfl, rfl, rfl, rfl, by omega⟩
theorem Pb.reach {X : Bs} (h : Pb w A S X) (c : Int) : Pb (w.setCell ⟨A, 6, none⟩ (.int .i64 (max X.commit c))) A S (X.reach c) ∧ Fr w (w.setCell ⟨A, 6, none⟩ (.int .i64 (max X.commit c))) S := by
  obtain ⟨r1, r2⟩ := h.setf (i := 6) (v := .int .i64 (max X.commit c)) (b' := { X with commit := max X.commit c }) (fun _ _ => rfl) rfl rfl (fun _ q => q) rfl rfl
  refine ⟨?_, r2⟩
  have : X.reach c = { X with commit := max X.commit c } := by
    unfold Bs.reach
    split
    · rw [show max X.commit c = c by omega]
    · rw [show max X.commit c = X.commit by omega]
  rw [this]
  exact r1
theorem entries_end (b : Bs) (m : Ms) (ho : b.out = []) (hr : b.role ≠ 2) (h1 : ¬ m.index + m.list.length ≤ b.commit) (h2 : ¬ (b.commit ≤ m.index ∧ b.termAt m.index ≠ m.prev)) {X : Bs} (hX : ({ b with role := 0, lead := m.fr } : Bs) = X) :
    (b.entries m).sent = ((X.lay (m.index + 1) m.list).reach (min m.commit (m.index + m.list.length)), [mk b { ms0 with kind := 4, «to» := m.fr, good := true, index := m.index + m.list.length }]) := by
  unfold Bs.entries
  rw [if_neg hr]
  simp only
  rw [if_neg h1, if_neg h2, hX]
  have hs := lay_same X m.list (m.index + 1)
  have hrr := reach_same (X.lay (m.index + 1) m.list) (min m.commit (m.index + m.list.length))
  have hXo : X.out = [] := by rw [← hX]; exact ho
  rw [sent_one _ _ (hrr.2.2.1.trans (hs.2.2.2.trans hXo))]
  have e1 : ((X.lay (m.index + 1) m.list).reach (min m.commit (m.index + m.list.length))).id = b.id := by rw [hrr.1, hs.2.1, ← hX]
  have e2 : ((X.lay (m.index + 1) m.list).reach (min m.commit (m.index + m.list.length))).term = b.term := by rw [hrr.2.1, hs.2.2.1, ← hX]
  unfold mk
  rw [e1, e2]
set_option maxHeartbeats 1000000 in
set_option maxRecDepth 100000 in
theorem takeFeed_a (h : Pb w A S b) (ok : Ok b) (m : Ms) {mad : Option Addr} {mcap : Nat} (hE : Es w S m.list (.slice mad m.list.length mcap)) (hz : b.log.length + m.list.length ≤ 900000) (hi0 : 0 ≤ m.index) (hi1 : m.index ≤ 1099511627776) (hq : b.role = 2 ∨ m.index + m.list.length ≤ b.commit) : Calls Try.prog 76 #[.pointer (some ⟨A, 0, none⟩), msV m (.slice mad m.list.length mcap)] w fun e w' => ∃ ov, e = .returned ov ∧ Po w w' A S (b.entries m).sent.1 (b.entries m).sent.2 ov := by
  have hlt := h.lt
  obtain ⟨W, hB⟩ := Bx.mk' h m (.slice mad m.list.length mcap)
  have hA := hB.pb
  have HW := Lib.hid hB.eq
  have hfw : Fr w W S := Fr.ofBelow S hB.bel
  obtain ⟨lv, pf, hv⟩ := hA
  have hA : Pb W A S b := ⟨lv, pf, hv⟩
  have c2 : W.cell? ⟨A, 2, none⟩ = some (.int .i64 b.role) := hv.cell 2
  by_cases hr : b.role = 2
  · have eg : (b.entries m).sent = (b, []) := by
      unfold Bs.entries
      rw [if_pos hr]
      exact Bs.sent_so b ok.out
    have HP : Hid (Po w W A S (b.entries m).sent.1 (b.entries m).sent.2 (.slice none 0 0)) := by
      rw [eg]
      exact Po.step hfw (Po.none hA)
    rw [hr] at c2
    clear hv hB hA hfw eg h hr
    go_enter Try.func76, Try.ntmps76
    go_upto_region 1 with fail
    rw [← HW.out]
    go_wp2
    go_ret
    exact ⟨_, rfl, HP.out⟩
  · have m1 : W.cell? ⟨w.heap.size, 1, none⟩ = some (.int .i64 m.fr) := cell_blk hB.blk 1
    have hfo := follow_any hA m.fr
    have HB := Lib.hid hB
    have hI := ok.inv
    have ho := ok.out
    obtain ⟨l1, b0, b1⟩ := h.len
    have hll : b.last ≤ 4398047411104 ∧ 0 ≤ b.last := by unfold Bs.last; omega
    have hcl := hI.cl
    have hbc := hI.bc
    clear hv hB hA h
    go_enter Try.func76, Try.ntmps76
    go_upto_region 1 with fail
    rw [← HW.out]
    go_wp2_with fail
    refine hfo.mono ?_
    rintro e1 w1 ⟨rfl, p1, f1⟩
    clear hfo m1 c2
    have hmb := HB.out.stay hlt f1
    have hf1 : Fr w w1 S := hfw.trans f1
    have hE1 := hE.stays (S' := S) hf1 (fun _ q => .inl q)
    have k1 : w1.cell? ⟨w.heap.size, 1, none⟩ = some (.int .i64 m.fr) := cell_blk hmb 1
    have k4 : w1.cell? ⟨w.heap.size, 4, none⟩ = some (.int .i64 m.index) := cell_blk hmb 4
    have k5 : w1.cell? ⟨w.heap.size, 5, none⟩ = some (.int .i64 m.prev) := cell_blk hmb 5
    have k6 : w1.cell? ⟨w.heap.size, 6, none⟩ = some (.int .i64 m.commit) := cell_blk hmb 6
    have k8 : w1.cell? ⟨w.heap.size, 8, none⟩ = some (.slice mad m.list.length mcap) := cell_blk hmb 8
    obtain ⟨X, hX⟩ : ∃ X, ({ b with role := 0, lead := m.fr } : Bs) = X := ⟨_, rfl⟩
    rw [hX] at p1
    have hXb : X.base = b.base ∧ X.commit = b.commit ∧ X.log = b.log ∧ X.last = b.last ∧ X.id = b.id ∧ X.term = b.term := by rw [← hX]; exact ⟨rfl, rfl, rfl, rfl, rfl, rfl⟩
    have hXt : ∀ i, X.termAt i = b.termAt i := by intro i; rw [← hX]; rfl
    have hmk : ∀ q, mk b q = mk X q := by intro q; unfold mk; rw [hXb.2.2.2.2.1, hXb.2.2.2.2.2]
    obtain ⟨lv1, pf1, hv1⟩ := p1
    have p1 : Pb w1 A S X := ⟨lv1, pf1, hv1⟩
    have c6 : w1.cell? ⟨A, 6, none⟩ = some (.int .i64 b.commit) := by rw [← hXb.2.1]; exact hv1.cell 6
    have c5 : w1.cell? ⟨A, 5, none⟩ = some (.int .i64 b.last) := by rw [← hXb.2.2.2.1]; exact hv1.cell 5
    obtain ⟨n, hn⟩ : ∃ n, m.list.length = n := ⟨_, rfl⟩
    obtain ⟨en, hen⟩ : ∃ en, m.index + (n : Int) = en := ⟨_, rfl⟩
    have w1e : IntKind.i64.wrap (m.index + (n : Int)) = en := by rw [IntKind.wrap_i64]; omega
    have w1e' : wrap64 (m.index + (n : Int)) = en := (IntWalk.wrap64_in _ ⟨by omega, by omega⟩).trans hen
    have hcalls : ∀ V tt i good Y, Pb V A S Y → Fr w V S → Y.id = b.id → Y.term = b.term → (b.entries m).sent = (Y, [mk b { ms0 with kind := 4, «to» := tt, good := good, index := i }]) → Calls Try.prog 73 #[.pointer (some ⟨A, 0, none⟩), .int .i64 tt, .bool good, .int .i64 i] V fun e w' => ∃ ov, e = .returned ov ∧ Po w w' A S (b.entries m).sent.1 (b.entries m).sent.2 ov := by
      intro V tt i good Y q1 q2 q3 q4 q5
      refine (fed_po q1 tt i good).mono ?_
      rintro e w' ⟨ov, rfl, q⟩
      rw [q5]
      refine ⟨ov, rfl, Po.step q2 ?_⟩
      have : mk b { ms0 with kind := 4, «to» := tt, good := good, index := i } = mk Y { ms0 with kind := 4, «to» := tt, good := good, index := i } := by unfold mk; rw [q3, q4]
      rw [this]
      exact q
    by_cases hc0 : en ≤ b.commit
    · have heq : (b.entries m).sent = (X, [mk b { ms0 with kind := 4, «to» := m.fr, good := true, index := en }]) := by
        unfold Bs.entries
        rw [if_neg hr]
        simp only
        rw [if_pos (by rw [hn, hen]; exact hc0), hX, hn, hen, sent_one X _ (by rw [← hX]; exact ho), hmk]
      have HC := Lib.hid (hcalls w1 m.fr en true X p1 hf1 hXb.2.2.2.2.1 hXb.2.2.2.2.2 heq)
      rw [hn] at k8
      clear hv1 hcalls heq hX hmb hf1 f1 hXb hXt hmk hn hen p1 hE hE1 hI ok
      go_wp2_with fail
      refine HC.out.mono ?_
      rintro e' w' ⟨ov, rfl, q⟩
      have HQ := Lib.hid q
      clear q
      go_wp2
      go_ret
      exact ⟨ov, rfl, HQ.out⟩
    · rcases hq with q | q
      · exact absurd q hr
      · exact absurd (show en ≤ b.commit by rw [← hen, ← hn]; exact q) hc0
end
end Go.Proofs.Ytmiagjcihmenfaa
