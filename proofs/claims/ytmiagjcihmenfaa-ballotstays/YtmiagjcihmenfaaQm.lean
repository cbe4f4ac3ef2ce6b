/- The walk of the program's refuse. -/
import Derived.Test.YtmiagjcihmenfaaQl
namespace Go.Proofs.Ytmiagjcihmenfaa
open Go.RowKit

section
variable {w w' : World} {A : Nat} {S T : Nat → Prop} {b : Bs} {lv : Value} {pf : Int}
theorem sent_one (b : Bs) (m : Ms) (h : b.out = []) : (b.send m).sent = (b, [mk b m]) := by
  unfold Bs.sent Bs.send
  simp only [h, List.nil_append]
  rw [out_self h]
theorem fed_po (h : Pb w A S b) (tt i : Int) (good : Bool) : Calls Try.prog 73 #[.pointer (some ⟨A, 0, none⟩), .int .i64 tt, .bool good, .int .i64 i] w fun e w' => ∃ ov, e = .returned ov ∧ Po w w' A S b [mk b { ms0 with kind := 4, «to» := tt, good := good, index := i }] ov := by
  refine (fed_any h tt good i).mono ?_
  rintro e w' ⟨ov, rfl, q1, q2⟩
  exact ⟨ov, rfl, Po.of (O := [(_, .slice none 0 0)]) (h.on q1) (Fr.ofBelow S q1) h.lt rfl (Ou.one q2 rfl)⟩
theorem voted_po (h : Pb w A S b) (tt : Int) (good : Bool) : Calls Try.prog 72 #[.pointer (some ⟨A, 0, none⟩), .int .i64 tt, .bool good] w fun e w' => ∃ ov, e = .returned ov ∧ Po w w' A S b [mk b { ms0 with kind := 2, «to» := tt, good := good }] ov := by
  refine (voted_any h tt good).mono ?_
  rintro e w' ⟨ov, rfl, q1, q2⟩
  exact ⟨ov, rfl, Po.of (O := [(_, .slice none 0 0)]) (h.on q1) (Fr.ofBelow S q1) h.lt rfl (Ou.one q2 rfl)⟩
set_option maxHeartbeats 1000000 in
set_option maxRecDepth 100000 in
theorem refuse_p (h : Pb w A S b) (ho : b.out = []) (m : Ms) (mv : Value) (hk1 : 1 ≤ m.kind) (hk5 : m.kind ≤ 5) : Calls Try.prog 48 #[.pointer (some ⟨A, 0, none⟩), msV m mv] w fun e w' => ∃ ov, e = .returned ov ∧ Po w w' A S (b.old m).sent.1 (b.old m).sent.2 ov := by
  obtain ⟨W, hB⟩ := Bx.mk' h m mv
  have hA := hB.pb
  have HW := Lib.hid hB.eq
  have hfw : Fr w W S := Fr.ofBelow S hB.bel
  have m0 : W.cell? ⟨w.heap.size, 0, none⟩ = some (.int .i64 m.kind) := cell_blk hB.blk 0
  have m1 : W.cell? ⟨w.heap.size, 1, none⟩ = some (.int .i64 m.fr) := cell_blk hB.blk 1
  obtain ⟨lv, pf, hv⟩ := hA
  have hA : Pb W A S b := ⟨lv, pf, hv⟩
  have c5 : W.cell? ⟨A, 5, none⟩ = some (.int .i64 b.last) := hv.cell 5
  by_cases e1 : m.kind = 1
  · have eo : (b.old m).sent = (b, [mk b { ms0 with kind := 2, «to» := m.fr }]) := by
      unfold Bs.old
      rw [if_pos e1]
      exact sent_one b _ ho
    have hcall : Calls Try.prog 72 #[.pointer (some ⟨A, 0, none⟩), .int .i64 m.fr, .bool false] W fun e w' => ∃ ov, e = .returned ov ∧ Po w w' A S (b.old m).sent.1 (b.old m).sent.2 ov := by
      refine (voted_po hA m.fr false).mono ?_
      rintro e w' ⟨ov, rfl, q⟩
      rw [eo]
      exact ⟨ov, rfl, Po.step hfw q⟩
    rw [e1] at m0
    have HC := Lib.hid hcall
    clear hv hB hA hfw eo h e1 hcall hk1 hk5
    go_enter Try.func48, Try.ntmps48
    go_upto_region 1 with fail
    rw [← HW.out]
    go_wp2_with fail
    refine HC.out.mono ?_
    rintro e' w' ⟨ov, rfl, q⟩
    have HQ := Lib.hid q
    clear q HC
    go_wp2
    go_ret
    exact ⟨ov, rfl, HQ.out⟩
  · by_cases e3 : m.kind = 3 ∨ m.kind = 5
    · have eo : (b.old m).sent = (b, [mk b { ms0 with kind := 4, «to» := m.fr, index := b.last }]) := by
        unfold Bs.old
        rw [if_neg e1, if_pos e3]
        exact sent_one b _ ho
      have hcall : ∀ n, Calls Try.prog 73 #[.pointer (some ⟨A, 0, none⟩), .int .i64 m.fr, .bool false, .int .i64 b.last] (W.drewN n) fun e w' => ∃ ov, e = .returned ov ∧ Po w w' A S (b.old m).sent.1 (b.old m).sent.2 ov := by
        intro n
        refine (fed_po (hA.drewN n) m.fr b.last false).mono ?_
        rintro e w' ⟨ov, rfl, q⟩
        rw [eo]
        exact ⟨ov, rfl, Po.step (hfw.drewN n) q⟩
      have HC := Lib.hid hcall
      rcases e3 with e3 | e3
      all_goals
        rw [e3] at m0
        clear hv hB hA hfw eo h e1 e3 hcall hk1 hk5
        go_enter Try.func48, Try.ntmps48
        go_upto_region 1 with fail
        rw [← HW.out]
        go_wp2
        go_region_with (go_at_call 73; refine (HC.out _).mono ?_; rintro e' w' ⟨ov, rfl, q⟩)
        all_goals
          have HQ := Lib.hid q
          clear q
          go_wp2
          go_ret
          exact ⟨ov, rfl, HQ.out⟩
    · have eo : (b.old m).sent = (b, []) := by
        unfold Bs.old
        rw [if_neg e1, if_neg e3]
        exact Bs.sent_so b ho
      have HP : Hid (Po w W A S (b.old m).sent.1 (b.old m).sent.2 (.slice none 0 0)) := by
        rw [eo]
        exact Po.step hfw (Po.none hA)
      have ek : m.kind = 2 ∨ m.kind = 4 := by omega
      rcases ek with ek | ek
      all_goals
        rw [ek] at m0
        clear hv hB hA hfw eo h e1 e3 ek hk1 hk5
        go_enter Try.func48, Try.ntmps48
        go_upto_region 1 with fail
        rw [← HW.out]
        go_wp2
        go_ret
        exact ⟨_, rfl, HP.out⟩
end
end Go.Proofs.Ytmiagjcihmenfaa
