/- The walk of the program's takeGive. -/
import Derived.Test.YtmiagjcihmenfaaQm
import Derived.Test.YtmiagjcihmenfaaPh
namespace Go.Proofs.Ytmiagjcihmenfaa
open Go.RowKit

section
variable {w w' : World} {A : Nat} {S T : Nat → Prop} {b : Bs} {lv : Value} {pf : Int}
/-- A snapshot is taken over. -/
def gvC (b : Bs) (m : Ms) : Bs := { ({ b with role := 0, lead := m.fr } : Bs).rebase m.index m.prev m.snap (if b.termAt m.index = m.prev then b.log.drop (m.index - b.base).toNat else []) with commit := m.index }
theorem given_eq (b : Bs) (m : Ms) (ho : b.out = []) (hr : b.role ≠ 2) : (b.given m).sent = if b.commit < m.index then (gvC b m, [mk b { ms0 with kind := 4, «to» := m.fr, good := true, index := m.index }]) else ({ b with role := 0, lead := m.fr }, [mk b { ms0 with kind := 4, «to» := m.fr, good := true, index := m.index }]) := by
  unfold Bs.given
  rw [if_neg hr]
  by_cases h : b.commit < m.index
  · rw [if_pos h]
    simp only
    rw [if_pos h]
    exact sent_one (gvC b m) _ ho
  · rw [if_neg h]
    simp only
    rw [if_neg h]
    exact sent_one { b with role := 0, lead := m.fr } _ ho
set_option maxHeartbeats 1000000 in
set_option maxRecDepth 100000 in
theorem takeGive_p (h : Pb w A S b) (ok : Ok b) (m : Ms) (mv : Value) (hi1 : m.index ≤ 1099511627776) (hp0 : 0 ≤ m.prev) : Calls Try.prog 78 #[.pointer (some ⟨A, 0, none⟩), msV m mv] w fun e w' => ∃ ov, e = .returned ov ∧ Po w w' A S (b.given m).sent.1 (b.given m).sent.2 ov := by
  have hlt := h.lt
  obtain ⟨W, hB⟩ := Bx.mk' h m mv
  have hA := hB.pb
  have HW := Lib.hid hB.eq
  have hfw : Fr w W S := Fr.ofBelow S hB.bel
  obtain ⟨lv, pf, hv⟩ := hA
  have hA : Pb W A S b := ⟨lv, pf, hv⟩
  have c2 : W.cell? ⟨A, 2, none⟩ = some (.int .i64 b.role) := hv.cell 2
  by_cases hr : b.role = 2
  · have eg : (b.given m).sent = (b, []) := by
      unfold Bs.given
      rw [if_pos hr]
      exact Bs.sent_so b ok.out
    have HP : Hid (Po w W A S (b.given m).sent.1 (b.given m).sent.2 (.slice none 0 0)) := by
      rw [eg]
      exact Po.step hfw (Po.none hA)
    rw [hr] at c2
    clear hv hB hA hfw eg h hr
    go_enter Try.func78, Try.ntmps78
    go_upto_region 1 with fail
    rw [← HW.out]
    go_wp2
    go_ret
    exact ⟨_, rfl, HP.out⟩
  · have m1 : W.cell? ⟨w.heap.size, 1, none⟩ = some (.int .i64 m.fr) := cell_blk hB.blk 1
    have hfo := follow_any hA m.fr
    have HB := Lib.hid hB
    have HEQ := Lib.hid (given_eq b m ok.out hr)
    have hI := ok.inv
    clear hv hB hA h
    go_enter Try.func78, Try.ntmps78
    go_upto_region 1 with fail
    rw [← HW.out]
    go_wp2_with fail
    refine hfo.mono ?_
    rintro e1 w1 ⟨rfl, p1, f1⟩
    clear hfo m1 c2
    have hmb := HB.out.stay hlt f1
    have hf1 : Fr w w1 S := hfw.trans f1
    have k1 : w1.cell? ⟨w.heap.size, 1, none⟩ = some (.int .i64 m.fr) := cell_blk hmb 1
    have k4 : w1.cell? ⟨w.heap.size, 4, none⟩ = some (.int .i64 m.index) := cell_blk hmb 4
    have k5 : w1.cell? ⟨w.heap.size, 5, none⟩ = some (.int .i64 m.prev) := cell_blk hmb 5
    have k9 : w1.cell? ⟨w.heap.size, 9, none⟩ = some (.string m.snap) := cell_blk hmb 9
    obtain ⟨X, hX⟩ : ∃ X, ({ b with role := 0, lead := m.fr } : Bs) = X := ⟨_, rfl⟩
    rw [hX] at p1
    have hXb : X.base = b.base ∧ X.commit = b.commit ∧ X.log = b.log ∧ X.last = b.last ∧ X.id = b.id ∧ X.term = b.term := by rw [← hX]; exact ⟨rfl, rfl, rfl, rfl, rfl, rfl⟩
    obtain ⟨lv1, pf1, hv1⟩ := p1
    have c6 : w1.cell? ⟨A, 6, none⟩ = some (.int .i64 b.commit) := by rw [← hXb.2.1]; exact hv1.cell 6
    have hlt1 := hv1.lt
    by_cases hc : b.commit < m.index
    · have heq := HEQ.out
      rw [if_pos hc] at heq
      have hI0 := hI.b0
      have hIc := hI.bc
      have hhas := fun n => has_any (Pb.drewN ⟨lv1, pf1, hv1⟩ n) m.index m.prev
      have eX : mk b { ms0 with kind := 4, «to» := m.fr, good := true, index := m.index } = mk (gvC b m) { ms0 with kind := 4, «to» := m.fr, good := true, index := m.index } := rfl
      -- what is left to be done, from the list of entries on
      have hend : ∀ V L ad cap, Fr w1 V S → V.heap[A]? = some (.cells (pC X lv1 pf1) 78 (0, 0)) → Lg V L (.slice ad L.length cap) → (∀ k, lgB (.slice ad L.length cap) = some k → S k) → L.length ≤ 900000 → (L = if b.termAt m.index = m.prev then b.log.drop (m.index - b.base).toNat else []) →
          Calls Try.prog 52 #[.pointer (some ⟨A, 0, none⟩), .int .i64 m.index, .int .i64 m.prev, .string m.snap, .slice ad L.length cap] V fun e w' => e = .returned (.tuple #[]) ∧ Pb w' A S (gvC b m) ∧ Fr w w' S ∧ w'.heap[w.heap.size]? = some (msO m mv) := by
        intro V L ad cap q1 q2 q3 q4 q5 q6
        refine (rebase_p (tm := m.prev) (snap := m.snap) q2 q3 hv1.covA q4 (fun k hk => Nat.lt_of_lt_of_le (hlt1 k hk) q1.size) q5 (by omega) (by omega) hv1.idl hv1.sz).mono ?_
        rintro e w' ⟨rfl, r1, r2⟩
        refine ⟨rfl, ?_, hf1.trans (q1.trans r2), ?_⟩
        · have : gvC b m = { X.rebase m.index m.prev m.snap L with commit := max X.commit m.index } := by
            unfold gvC
            rw [q6, hX, hXb.2.1, show max b.commit m.index = m.index by omega]
          rw [this]
          exact r1
        · exact ((q1.trans r2).block _ (blk_lt hmb) (fun q => by have := hlt _ q; omega)).trans hmb
      have hgo : ∀ V, Pb V A S (gvC b m) → Fr w V S → Calls Try.prog 73 #[.pointer (some ⟨A, 0, none⟩), .int .i64 m.fr, .bool true, .int .i64 m.index] V fun e w' => ∃ ov, e = .returned ov ∧ Po w w' A S (b.given m).sent.1 (b.given m).sent.2 ov := by
        intro V q1 q2
        refine (fed_po q1 m.fr m.index true).mono ?_
        rintro e w' ⟨ov, rfl, q⟩
        rw [heq, eX]
        exact ⟨ov, rfl, Po.step q2 q⟩
      have HG := Lib.hid hgo
      by_cases hh : b.base ≤ m.index ∧ m.index ≤ b.last ∧ b.termAt m.index = m.prev
      · have hhX : X.base ≤ m.index ∧ m.index ≤ X.last ∧ X.termAt m.index = m.prev := by
          rw [hXb.1, hXb.2.2.2.1]
          exact ⟨hh.1, hh.2.1, by rw [← hX]; exact hh.2.2⟩
        have hbeh := fun n => behind_any (hv1.on (below_draw (Below.refl _ w1) n)) (i := m.index) hhX.1 hhX.2.1
        rw [decide_eq_true hhX] at hhas
        rw [hXb.1, hXb.2.2.1] at hbeh
        have hreb : ∀ n, Calls Try.prog 54 #[.pointer (some ⟨A, 0, none⟩), .int .i64 m.index] (w1.drewN n) fun e w' => ∃ ad cap, e = .returned (.slice ad (b.log.drop (m.index - b.base).toNat).length cap) ∧ w'.cell? ⟨w.heap.size, 4, none⟩ = some (.int .i64 m.index) ∧ w'.cell? ⟨w.heap.size, 5, none⟩ = some (.int .i64 m.prev) ∧ w'.cell? ⟨w.heap.size, 9, none⟩ = some (.string m.snap) ∧ Calls Try.prog 52 #[.pointer (some ⟨A, 0, none⟩), .int .i64 m.index, .int .i64 m.prev, .string m.snap, .slice ad (b.log.drop (m.index - b.base).toNat).length cap] w' fun e w' => e = .returned (.tuple #[]) ∧ Pb w' A S (gvC b m) ∧ Fr w w' S ∧ w'.heap[w.heap.size]? = some (msO m mv) := by
          intro n
          refine (hbeh n).mono ?_
          rintro e w' ⟨ad, cap, rfl, q1, q2, q3⟩
          have hl : (b.log.drop (m.index - b.base).toNat).length = b.log.length - (m.index - b.base).toNat := by simp
          have hfS : Fr w1 w' S := ((Fr.refl w1 S).drewN n).step (q2.mono (fun k hk => hv1.cov k hk)) (fun k hk => .inl hk)
          have hm' := (hfS.block _ (blk_lt hmb) (fun q => by have := hlt _ q; omega)).trans hmb
          rw [hl]
          refine ⟨ad, cap, rfl, cell_blk hm' 4, cell_blk hm' 5, cell_blk hm' 9, ?_⟩
          rw [← hl]
          refine hend w' _ ad cap hfS ?_ (by rw [hl]; exact q1) (fun k hk => hv1.cov k (q3 k (by rw [← hl]; exact hk))) ?_ ?_
          · exact (q2.block A (hlt1 A hv1.covA) (fun q => hv1.neA A q rfl)).trans hv1.ob
          · have := hv1.len
            rw [hXb.2.2.1] at this
            simp
            omega
          · rw [if_pos hh.2.2]
        obtain ⟨L, hL⟩ : ∃ L, b.log.drop (m.index - b.base).toNat = L := ⟨_, rfl⟩
        rw [hL] at hreb
        have HR := Lib.hid hreb
        have HHA := Lib.hid hhas
        clear hv1 hbeh hreb hend hgo hhas hhX hh heq eX hX hmb hf1 f1 hXb hL hI0 hIc hI
        go_wp2
        go_quiet (fail)
        go_wp2_with fail
        refine (HHA.out _).mono ?_
        rintro e2 w2 ⟨rfl, n2, rfl⟩
        rw [World.drewN_drewN]
        go_wp2_with fail
        refine (HR.out _).mono ?_
        rintro e3 w3 ⟨ad, cap, rfl, j4, j5, j9, hc3⟩
        go_wp2_with fail
        refine hc3.mono ?_
        rintro e4 w4 ⟨rfl, s1, s2, s3⟩
        have j1 : w4.cell? ⟨w.heap.size, 1, none⟩ = some (.int .i64 m.fr) := cell_blk s3 1
        have j44 : w4.cell? ⟨w.heap.size, 4, none⟩ = some (.int .i64 m.index) := cell_blk s3 4
        have hcall := HG.out w4 s1 s2
        clear s1 s2 s3 hc3
        go_wp2_with fail
        refine hcall.mono ?_
        rintro e' w' ⟨ov, rfl, q⟩
        have HQ := Lib.hid q
        clear q hcall
        go_wp2
        go_ret
        exact ⟨ov, rfl, HQ.out⟩
      · have hhX : ¬ (X.base ≤ m.index ∧ m.index ≤ X.last ∧ X.termAt m.index = m.prev) := by
          rw [hXb.1, hXb.2.2.2.1]
          exact fun q => hh ⟨q.1, q.2.1, by rw [← hX] at q; exact q.2.2⟩
        have ht : b.termAt m.index ≠ m.prev := by
          intro q
          by_cases hl : m.index ≤ b.last
          · exact hh ⟨by omega, hl, q⟩
          · rw [Bs.termAt_none (.inr (by omega))] at q
            omega
        rw [decide_eq_false hhX] at hhas
        have hreb : ∀ n, Calls Try.prog 52 #[.pointer (some ⟨A, 0, none⟩), .int .i64 m.index, .int .i64 m.prev, .string m.snap, .slice none 0 0] (w1.drewN n) fun e w' => e = .returned (.tuple #[]) ∧ Pb w' A S (gvC b m) ∧ Fr w w' S ∧ w'.heap[w.heap.size]? = some (msO m mv) := by
          intro n
          exact hend (w1.drewN n) [] none 0 ((Fr.refl w1 S).drewN n) hv1.ob (Lg.nil _) (fun k hk => by rw [lgB_zero] at hk; cases hk) (Nat.zero_le _) (by rw [if_neg ht])
        have HR := Lib.hid hreb
        have HHA := Lib.hid hhas
        clear hv1 hreb hend hgo hhas hhX hh heq eX hX hmb hf1 f1 hXb hI0 hIc hI ht
        go_wp2
        go_quiet (fail)
        go_wp2_with fail
        refine (HHA.out _).mono ?_
        rintro e2 w2 ⟨rfl, n2, rfl⟩
        rw [World.drewN_drewN]
        go_wp2_with fail
        refine (HR.out _).mono ?_
        rintro e4 w4 ⟨rfl, s1, s2, s3⟩
        have j1 : w4.cell? ⟨w.heap.size, 1, none⟩ = some (.int .i64 m.fr) := cell_blk s3 1
        have j44 : w4.cell? ⟨w.heap.size, 4, none⟩ = some (.int .i64 m.index) := cell_blk s3 4
        have hcall := HG.out w4 s1 s2
        clear s1 s2 s3
        go_wp2_with fail
        refine hcall.mono ?_
        rintro e' w' ⟨ov, rfl, q⟩
        have HQ := Lib.hid q
        clear q hcall
        go_wp2
        go_ret
        exact ⟨ov, rfl, HQ.out⟩
    · have heq := HEQ.out
      rw [if_neg hc, hX] at heq
      have hcall : ∀ n, Calls Try.prog 73 #[.pointer (some ⟨A, 0, none⟩), .int .i64 m.fr, .bool true, .int .i64 m.index] (w1.drewN n) fun e w' => ∃ ov, e = .returned ov ∧ Po w w' A S (b.given m).sent.1 (b.given m).sent.2 ov := by
        intro n
        refine (fed_po (Pb.drewN ⟨lv1, pf1, hv1⟩ n) m.fr m.index true).mono ?_
        rintro e w' ⟨ov, rfl, q⟩
        rw [heq]
        refine ⟨ov, rfl, Po.step (hf1.drewN n) ?_⟩
        rw [show mk b { ms0 with kind := 4, «to» := m.fr, good := true, index := m.index } = mk X { ms0 with kind := 4, «to» := m.fr, good := true, index := m.index } by unfold mk; rw [hXb.2.2.2.2.1, hXb.2.2.2.2.2]]
        exact q
      have HC := Lib.hid hcall
      clear hv1 hcall heq hX hmb hf1 f1 hXb
      go_wp2
      go_quiet (fail)
      go_wp2_with fail
      refine (HC.out _).mono ?_
      rintro e' w' ⟨ov, rfl, q⟩
      have HQ := Lib.hid q
      clear q
      go_wp2
      go_ret
      exact ⟨ov, rfl, HQ.out⟩
end
end Go.Proofs.Ytmiagjcihmenfaa
