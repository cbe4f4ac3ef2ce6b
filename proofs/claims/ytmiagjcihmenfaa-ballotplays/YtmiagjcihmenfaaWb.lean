/- The walk of the document's ask. -/
import Derived.Test.YtmiagjcihmenfaaXe
import Derived.Deep.DeepCutAuto
namespace Go.Proofs.Ytmiagjcihmenfaa
open Go.RowKit

abbrev msCs (m : Ms) (v : Value) : Array Value := #[.int .i64 m.kind, .int .i64 m.fr, .int .i64 m.tgt, .int .i64 m.term, .int .i64 m.index, .int .i64 m.prev, .int .i64 m.commit, .bool m.good, v, .string m.snap]
section
variable {w w' W V : World} {A : Nat} {S T : Nat → Prop} {b c : Bs}
/-- A step, a change of fields, a message sent. -/
theorem Rt.sent' {m : Ms} {V2 : World} (hb : Below w.heap.size w V) (hf : Fr V V2 S) (h : Rb w' A (Gro S V2 w') (c.send m)) (hs : Fr V2 w' S) : Rt w w' A S (c.send m) :=
  Rt.from hb (Rt.step hf (Rt.of h hs))
set_option maxHeartbeats 8000000 in
set_option maxRecDepth 100000 in
theorem ask_any (h : Rb w A S b) (m : Ms) (mad : Option Addr) (mcap : Nat) (hf : b.out.length < 900000) : Calls Try.prog 63 #[.pointer (some ⟨A, 0, none⟩), msV m (.slice mad m.list.length mcap)] w fun e w' => e = .returned (.tuple #[]) ∧ Rt w w' A S (b.ask m) := by
  obtain ⟨W, hW⟩ : ∃ W, W = w.alloc (.cells (msCs m (.slice mad m.list.length mcap)) 34) := ⟨_, rfl⟩
  obtain ⟨Y, hY⟩ : ∃ Y, w.heap.size = Y := ⟨_, rfl⟩
  have hb : Below w.heap.size w W := by rw [hW]; exact (Below.refl _ w).alloc (Nat.le_refl _) _
  have jY : W.heap[Y]? = some (.cells (msCs m (.slice mad m.list.length mcap)) 34 (0, 0)) := by rw [hW, ← hY]; exact heap_alloc_new w _
  have hA := h.on hb
  have hAlt : A < w.heap.size := by obtain ⟨_, _, _, q⟩ := h; exact q.lt A q.covA
  have hYA : Y ≠ A := by omega
  have hAY : A ≠ Y := by omega
  have hlast := fun n => last_any (hA.drewN n)
  have hterm := fun n => term_any (hA.drewN n) b.last
  obtain ⟨t1, ht1⟩ : ∃ t1, b.termAt b.last = t1 := ⟨_, rfl⟩
  obtain ⟨La, hLa⟩ : ∃ La, b.last = La := ⟨_, rfl⟩
  rw [ht1] at hterm
  rw [hLa] at hlast hterm
  have HAA := Lib.hid hA
  have HJ := Lib.hid jY
  have HB := Lib.hid hb
  have HW := Lib.hid hW
  have HY := Lib.hid hY
  have HT1 := Lib.hid ht1
  have HLA := Lib.hid hLa
  obtain ⟨lv, ov, O, hv⟩ := hA
  have c3 : W.cell? ⟨A, 3, none⟩ = some (.int .i64 b.vote) := hv.cell 3
  have m1 : W.cell? ⟨Y, 1, none⟩ = some (.int .i64 m.fr) := cell_blk jY 1
  have m4 : W.cell? ⟨Y, 4, none⟩ = some (.int .i64 m.index) := cell_blk jY 4
  have m5 : W.cell? ⟨Y, 5, none⟩ = some (.int .i64 m.prev) := cell_blk jY 5
  obtain ⟨f2, hf2⟩ : ∃ f2, decide (b.vote = -1 ∨ b.vote = m.fr) = f2 := ⟨_, rfl⟩
  obtain ⟨f3, hf3⟩ : ∃ f3, decide (m.prev < t1 ∨ (m.prev = t1 ∧ m.index < La)) = f3 := ⟨_, rfl⟩
  have HF2 := Lib.hid hf2
  have HF3 := Lib.hid hf3
  clear hW hY hb jY hv h hf2 hf3 ht1 hLa
  go_enter Try.func63, Try.ntmps63
  go_upto_region 1 with fail
  rw [← HW.out, HY.out]
  go_cut [4] (fun v wx => v = .int .i64 t1 ∧ ∃ n, wx = W.drewN n)
  case first =>
    go_wp2_with fail
    refine (hlast 0).mono ?_
    rintro e w1 ⟨rfl, n1, rfl⟩
    go_wp2_with fail
    refine (hterm n1).mono ?_
    rintro e w2 ⟨rfl, n2, rfl⟩
    go_wp2_with fail
    go_meet
    exact ⟨rfl, _, rfl⟩
  case rest =>
    obtain ⟨rfl, n1, rfl⟩ := hcut
    go_wp2_with fail
    go_cut [5] (fun v wx => v = .bool f2 ∧ ∃ n, wx = W.drewN n)
    case first =>
      by_cases q1 : b.vote = -1
      · have h1 : (b.vote == -1) = true := by simpa using q1
        have hg : f2 = true := HF2.out.symm.trans (decide_eq_true (by omega))
        subst hg
        go_quiet (fail)
        go_wp2_with fail
        go_meet
        exact ⟨rfl, _, by first | rfl | exact World.drewN_drewN ..⟩
      · have h1 : (b.vote == -1) = false := by simpa using q1
        by_cases q2 : b.vote = m.fr
        · have h2 : (b.vote == m.fr) = true := by simpa using q2
          have hg : f2 = true := HF2.out.symm.trans (decide_eq_true (by omega))
          subst hg
          clear q2
          go_quiet (fail)
          go_wp2_with fail
          go_meet
          exact ⟨rfl, _, by first | rfl | exact World.drewN_drewN ..⟩
        · have h2 : (b.vote == m.fr) = false := by simpa using q2
          have hg : f2 = false := HF2.out.symm.trans (decide_eq_false (by omega))
          subst hg
          go_quiet (fail)
          go_wp2_with fail
          go_meet
          exact ⟨rfl, _, by first | rfl | exact World.drewN_drewN ..⟩
    case rest =>
      obtain ⟨rfl, n2, hwc2⟩ := hcut
      have bn2 : Below W.heap.size W (W.drewN n2) := below_draw (Below.refl W.heap.size W) n2
      have hP2 := HAA.out.on bn2
      have j2 := (bn2.block Y (blk_lt HJ.out)).trans HJ.out
      rw [← hwc2] at hP2 j2 bn2
      obtain ⟨V2, rfl⟩ : ∃ V2, V2 = wc := ⟨_, rfl⟩
      have hlast2 := fun n => last_any (hP2.drewN n)
      rw [HLA.out] at hlast2
      have x4 : V2.cell? ⟨Y, 4, none⟩ = some (.int .i64 m.index) := cell_blk j2 4
      have x5 : V2.cell? ⟨Y, 5, none⟩ = some (.int .i64 m.prev) := cell_blk j2 5
      have HP2 := Lib.hid hP2
      have HJ2 := Lib.hid j2
      have HB2 := Lib.hid (HB.out.trans (bn2.mono HB.out.size))
      clear hwc2 hP2 j2 bn2 c3 m1 m4 m5 hlast hterm
      go_wp2_with fail
      go_cut [40] (fun v wx => v = .bool f3 ∧ ∃ n, wx = V2.drewN n)
      case first =>
        by_cases q1 : m.prev < t1
        · have h1 : decide (m.prev < t1) = true := decide_eq_true q1
          have hg : f3 = true := HF3.out.symm.trans (decide_eq_true (by omega))
          subst hg
          go_quiet (fail)
          go_wp2_with fail
          go_meet
          exact ⟨rfl, _, by first | rfl | exact World.drewN_drewN ..⟩
        · have h1 : decide (m.prev < t1) = false := decide_eq_false q1
          by_cases q2 : m.prev = t1
          · have h2 : (m.prev == t1) = true := by simpa using q2
            by_cases q3 : m.index < La
            · have h3 : decide (m.index < La) = true := decide_eq_true q3
              have hg : f3 = true := HF3.out.symm.trans (decide_eq_true (by omega))
              subst hg
              clear q2
              go_quiet ((go_at_call 38; exact Calls.quiet_of (hlast2 _)))
              go_wp2_with fail
              go_meet
              exact ⟨rfl, _, by first | rfl | exact World.drewN_drewN ..⟩
            · have h3 : decide (m.index < La) = false := decide_eq_false q3
              have hg : f3 = false := HF3.out.symm.trans (decide_eq_false (by omega))
              subst hg
              clear q2
              go_quiet ((go_at_call 38; exact Calls.quiet_of (hlast2 _)))
              go_wp2_with fail
              go_meet
              exact ⟨rfl, _, by first | rfl | exact World.drewN_drewN ..⟩
          · have h2 : (m.prev == t1) = false := by simpa using q2
            have hg : f3 = false := HF3.out.symm.trans (decide_eq_false (by omega))
            subst hg
            go_quiet (fail)
            go_wp2_with fail
            go_meet
            exact ⟨rfl, _, by first | rfl | exact World.drewN_drewN ..⟩
      case rest =>
        obtain ⟨rfl, n3, hwc⟩ := hcut
        have bn : Below V2.heap.size V2 (V2.drewN n3) := below_draw (Below.refl V2.heap.size V2) n3
        have hPV := HP2.out.on bn
        have jV := (bn.block Y (blk_lt HJ2.out)).trans HJ2.out
        have hbV := HB2.out.trans (bn.mono HB2.out.size)
        rw [← hwc] at hPV jV hbV
        obtain ⟨V, rfl⟩ : ∃ V, V = wc := ⟨_, rfl⟩
        have HJV := Lib.hid jV
        have HBV := Lib.hid hbV
        have HPV := Lib.hid hPV
        have x1 : V.cell? ⟨Y, 1, none⟩ = some (.int .i64 m.fr) := cell_blk jV 1
        clear hwc bn x4 x5 hlast2 jV hbV
        have hno : (f2 = false ∨ f3 = true) → Hid (Calls Try.prog 55 #[.pointer (some ⟨A, 0, none⟩), .agg (msCs { ms0 with kind := 2, tgt := m.fr } (.slice none 0 0))] V fun e w' => e = .returned (.tuple #[]) ∧ Rt w w' A S (b.ask m)) := by
          intro hq
          have hng : ¬ b.grants m := by
            unfold Bs.grants
            rw [HT1.out, HLA.out]
            intro g
            rcases hq with q | q
            · have := of_decide_eq_false (HF2.out.trans q)
              exact this g.1
            · have := of_decide_eq_true (HF3.out.trans q)
              exact g.2 this
          have e : b.ask m = b.send { ms0 with kind := 2, tgt := m.fr } := by unfold Bs.ask; rw [if_neg hng]
          rw [e]
          refine (send_any (m := { ms0 with kind := 2, tgt := m.fr }) (mv := .slice none 0 0) HPV.out (Es.nil _ _) hf).mono ?_
          rintro e w' ⟨rfl, q1, q2⟩
          exact ⟨rfl, Rt.sent' HBV.out (Fr.refl _ _) q1 q2⟩
        cases f3 with
        | true =>
          have hs := (hno (.inr rfl)).out
          clear hno hPV
          cases f2 with
          | true =>
            go_wp2_with fail
            refine hs.mono ?_
            rintro e w' ⟨rfl, q⟩
            have HQ := Lib.hid q
            clear q hs
            go_wp2
            go_end0
            exact ⟨rfl, HQ.out⟩
          | false =>
            go_wp2_with fail
            refine hs.mono ?_
            rintro e w' ⟨rfl, q⟩
            have HQ := Lib.hid q
            clear q hs
            go_wp2
            go_end0
            exact ⟨rfl, HQ.out⟩
        | false =>
          cases f2 with
          | false =>
            have hs := (hno (.inl rfl)).out
            clear hno hPV
            go_wp2_with fail
            refine hs.mono ?_
            rintro e w' ⟨rfl, q⟩
            have HQ := Lib.hid q
            clear q hs
            go_wp2
            go_end0
            exact ⟨rfl, HQ.out⟩
          | true =>
            have hgr : b.grants m := by
              unfold Bs.grants
              rw [HT1.out, HLA.out]
              exact ⟨of_decide_eq_true HF2.out, of_decide_eq_false HF3.out⟩
            have e : b.ask m = ({ b with vote := m.fr, touched := true } : Bs).send { ms0 with kind := 2, tgt := m.fr, good := true } := by unfold Bs.ask; rw [if_pos hgr]
            obtain ⟨a1, f1⟩ := hPV.setf (i := 3) (v := .int .i64 m.fr) (b' := { b with vote := m.fr }) (fun _ _ => rfl) rfl rfl rfl
            obtain ⟨a2, f2⟩ := a1.setf (i := 26) (v := .bool true) (b' := { b with vote := m.fr, touched := true }) (fun _ _ => rfl) rfl rfl rfl
            have hs : Calls Try.prog 55 #[.pointer (some ⟨A, 0, none⟩), .agg (msCs { ms0 with kind := 2, tgt := m.fr, good := true } (.slice none 0 0))] ((V.setCell ⟨A, 3, none⟩ (.int .i64 m.fr)).setCell ⟨A, 26, none⟩ (.bool true)) fun e w' => e = .returned (.tuple #[]) ∧ Rt w w' A S (b.ask m) := by
              rw [e]
              refine (send_any (m := { ms0 with kind := 2, tgt := m.fr, good := true }) (mv := .slice none 0 0) a2 (Es.nil _ _) hf).mono ?_
              rintro e w' ⟨rfl, q1, q2⟩
              exact ⟨rfl, Rt.sent' HBV.out (f1.trans f2) q1 q2⟩
            obtain ⟨lv2, ov2, O2, hv2⟩ := hPV
            have g3 : V.cell? ⟨A, 3, none⟩ = some (.int .i64 b.vote) := hv2.cell 3
            have g26 : V.cell? ⟨A, 26, none⟩ = some (.bool b.touched) := hv2.cell 26
            have z3 : V.frozen? ⟨A, 3, none⟩ = false := frozen_blk hv2.ob 3
            have z26 : V.frozen? ⟨A, 26, none⟩ = false := frozen_blk hv2.ob 26
            clear hno hgr e a1 a2 f1 f2 hv2
            go_wp2_with fail
            refine hs.mono ?_
            rintro e w' ⟨rfl, q⟩
            have HQ := Lib.hid q
            clear q hs
            go_wp2
            go_end0
            exact ⟨rfl, HQ.out⟩
end
end Go.Proofs.Ytmiagjcihmenfaa
