/- The walk of the document's Take. -/
import Derived.Test.YtmiagjcihmenfaaWa
import Derived.Test.YtmiagjcihmenfaaWg
import Derived.Test.YtmiagjcihmenfaaWh
namespace Go.Proofs.Ytmiagjcihmenfaa
open Go.RowKit

section
variable {w w' W V : World} {A : Nat} {S T : Nat → Prop} {b c : Bs} {m : Ms}
set_option maxHeartbeats 2000000 in
set_option maxRecDepth 100000 in
theorem heard_off (h : Rb w A S b) (m : Ms) (mad : Option Addr) (mcap : Nat) (hr : ¬ b.role = 2) : Calls Try.prog 65 #[.pointer (some ⟨A, 0, none⟩), msV m (.slice mad m.list.length mcap)] w fun e w' => e = .returned (.tuple #[]) ∧ Rt w w' A S (b.heard m) := by
  obtain ⟨W, hW⟩ : ∃ W, W = w.alloc (.cells (msCs m (.slice mad m.list.length mcap)) 34) := ⟨_, rfl⟩
  have hb : Below w.heap.size w W := by rw [hW]; exact (Below.refl _ w).alloc (Nat.le_refl _) _
  have hA := h.on hb
  have e : b.heard m = b := by unfold Bs.heard; rw [if_neg hr]
  rw [e]
  have hr' : (b.role == 2) = false := by simpa using hr
  obtain ⟨lv, ov, O, hv⟩ := hA
  have c4 : W.cell? ⟨A, 4, none⟩ = some (.int .i64 b.role) := hv.cell 4
  have HH := Lib.hid h
  have HB := Lib.hid hb
  have HW := Lib.hid hW
  clear hW hb hv h e hr
  go_enter Try.func65, Try.ntmps65
  go_upto_region 1 with fail
  rw [← HW.out]
  go_wp2
  refine bodyPost_ret (results_none rfl _ _ _) rfl ?_
  exact ⟨rfl, Rt.same HH.out HB.out⟩
/-- What a message that is let by is sure of. -/
theorem lets (hs : ¬ b.strange m) : 0 ≤ m.fr ∧ m.fr < b.size ∧ 1 ≤ m.kind ∧ m.kind ≤ 5 ∧ -1 ≤ m.index ∧ m.index ≤ 1099511627776 ∧ 0 ≤ m.prev ∧ (m.kind ≠ 4 → 0 ≤ m.index) := by
  unfold Bs.strange at hs
  omega
theorem actR (h : Rb w A S b) (ok : Ok b) (m : Ms) {mad : Option Addr} {mcap : Nat} (hE : Es w S m.list (.slice mad m.list.length mcap)) (hn : Nb b) (hz : b.log.length + m.list.length + 1 ≤ 900000) (hs : ¬ b.strange m) : ∀ K, (m.kind = 1 ∧ K = 63) ∨ (m.kind = 3 ∧ K = 64) ∨ (m.kind = 4 ∧ K = 65) ∨ (m.kind = 5 ∧ K = 66) → Calls Try.prog K #[.pointer (some ⟨A, 0, none⟩), msV m (.slice mad m.list.length mcap)] w fun e w' => e = .returned (.tuple #[]) ∧ Rt w w' A S (b.act m) := by
  intro K hK
  obtain ⟨l1, l2, l3, l4, l5, l6, l7, l8⟩ := lets hs
  have ho : b.out.length = 0 := by rw [ok.out]; rfl
  have hI := ok.inv
  unfold Bs.act
  rcases hK with ⟨q, rfl⟩ | ⟨q, rfl⟩ | ⟨q, rfl⟩ | ⟨q, rfl⟩
  · rw [if_pos q]
    exact ask_any h m mad mcap (by omega)
  · rw [if_neg (by omega), if_neg (by omega), if_pos q]
    exact entries_any h hI m mad mcap hE (by omega) (by omega) (l8 (by omega)) l6 l7
  · rw [if_neg (by omega), if_neg (by omega), if_neg (by omega), if_pos q]
    by_cases hr : b.role = 2
    · cases hg : m.good with
      | true => exact heard_good h hI (ok.ld hr) m mad mcap (by omega) hn l1 l2 hr hg
      | false => exact heard_bad h hI (ok.ld hr) m mad mcap (by omega) hn l1 l2 l5 l6 hr hg
    · exact heard_off h m mad mcap hr
  · rw [if_neg (by omega), if_neg (by omega), if_neg (by omega), if_neg (by omega)]
    exact given_any h m mad mcap (by omega) hI.bc l6 l7
theorem inv_has (hI : Bs.Inv b) (k : Nat) (x : Bool) : Bs.Inv { b with has := b.has.set k x } := ⟨hI.idl, hI.sz, by show (b.has.set k x).length = 5; rw [List.length_set]; exact hI.hs, hI.nx, hI.mt, hI.b0, hI.bc, hI.cl, hI.v0, hI.v1, hI.t0⟩
theorem take_is (hs : ¬ b.strange m) (ht : ¬ m.term < (b.newer m).term) : b.take m = ((b.newer m).act m).sent := by
  unfold Bs.take
  rw [if_neg hs, if_neg ht]
theorem take_was (hs : ¬ b.strange m) (ht : m.term < (b.newer m).term) : b.take m = ((b.newer m).old m).sent := by
  unfold Bs.take
  rw [if_neg hs, if_pos ht]
theorem Ro.none (h : Rb w A S b) (hb : Below w.heap.size w w') : Ro w w' A S b [] (.slice none 0 0) := ⟨S, h.on hb, fun _ q => .inl q, Fr.ofBelow S hb, [], rfl, World.ownsRow_nil _ _ _ _, fun p hp => by cases hp⟩
end
section
variable {w w' W V : World} {A : Nat} {S T : Nat → Prop} {b c : Bs} {m : Ms}
set_option maxHeartbeats 16000000 in
set_option maxRecDepth 100000 in
theorem take_any (h : Rb w A S b) (ok : Ok b) (m : Ms) {mad : Option Addr} {mcap : Nat} (hE : Es w S m.list (.slice mad m.list.length mcap)) (hn : Nb b) (hz : b.log.length + m.list.length + 1 ≤ 900000) : Calls Try.prog 35 #[.pointer (some ⟨A, 0, none⟩), msV m (.slice mad m.list.length mcap)] w fun e w' => ∃ ov, e = .returned ov ∧ Ro w w' A S (b.take m).1 (b.take m).2 ov := by
  obtain ⟨W, hW⟩ : ∃ W, W = w.alloc (.cells (msCs m (.slice mad m.list.length mcap)) 34) := ⟨_, rfl⟩
  obtain ⟨Y, hY⟩ : ∃ Y, w.heap.size = Y := ⟨_, rfl⟩
  have hb : Below w.heap.size w W := by rw [hW]; exact (Below.refl _ w).alloc (Nat.le_refl _) _
  have jY : W.heap[Y]? = some (.cells (msCs m (.slice mad m.list.length mcap)) 34 (0, 0)) := by rw [hW, ← hY]; exact heap_alloc_new w _
  have hlt := h.lt
  have hYS : ¬ S Y := fun q => by have := hlt Y q; omega
  have hAlt : A < w.heap.size := by obtain ⟨_, _, _, q⟩ := h; exact q.lt A q.covA
  have hYA : Y ≠ A := by omega
  have hAY : A ≠ Y := by omega
  have hA := h.on hb
  have HH := Lib.hid h
  have HB := Lib.hid hb
  have HW := Lib.hid hW
  have HY := Lib.hid hY
  have HJ := Lib.hid jY
  have HEE := Lib.hid hE
  have HOB := Lib.hid ok
  have HNB := Lib.hid hn
  have HZB := Lib.hid hz
  obtain ⟨g, hg⟩ : ∃ g, decide (b.strange m) = g := ⟨_, rfl⟩
  have hst := strange_any hA m mad mcap
  rw [hg] at hst
  have HG := Lib.hid hg
  have m0 : W.cell? ⟨Y, 0, none⟩ = some (.int .i64 m.kind) := cell_blk jY 0
  have m1 : W.cell? ⟨Y, 1, none⟩ = some (.int .i64 m.fr) := cell_blk jY 1
  have m2 : W.cell? ⟨Y, 2, none⟩ = some (.int .i64 m.tgt) := cell_blk jY 2
  have m3 : W.cell? ⟨Y, 3, none⟩ = some (.int .i64 m.term) := cell_blk jY 3
  have m4 : W.cell? ⟨Y, 4, none⟩ = some (.int .i64 m.index) := cell_blk jY 4
  have m5 : W.cell? ⟨Y, 5, none⟩ = some (.int .i64 m.prev) := cell_blk jY 5
  have m6 : W.cell? ⟨Y, 6, none⟩ = some (.int .i64 m.commit) := cell_blk jY 6
  have m7 : W.cell? ⟨Y, 7, none⟩ = some (.bool m.good) := cell_blk jY 7
  have m8 : W.cell? ⟨Y, 8, none⟩ = some (.slice mad m.list.length mcap) := cell_blk jY 8
  have m9 : W.cell? ⟨Y, 9, none⟩ = some (.string m.snap) := cell_blk jY 9
  clear hW hY hb jY h hE hA ok hn hz hg
  go_enter Try.func35, Try.ntmps35
  go_upto_region 1 with fail
  rw [← HW.out, HY.out]
  go_wp2_with fail
  refine hst.mono ?_
  rintro e W1 ⟨rfl, hb1⟩
  have hbw := HB.out.trans (hb1.mono HB.out.size)
  have hP1 := HH.out.on hbw
  have j1 := (hb1.block Y (blk_lt HJ.out)).trans HJ.out
  have HBW := Lib.hid hbw
  have HP1 := Lib.hid hP1
  have HJ1 := Lib.hid j1
  clear hst m0 m1 m2 m3 m4 m5 m6 m7 m8 m9 hb1 hbw
  cases g with
  | true =>
    have e : b.take m = (b, []) := by unfold Bs.take; rw [if_pos (of_decide_eq_true HG.out)]
    have HE := Lib.hid e
    clear e hP1 j1
    go_wp2
    go_ret
    exact ⟨_, rfl, by rw [HE.out]; exact Ro.none HH.out HBW.out⟩
  | false =>
    have hns := of_decide_eq_false HG.out
    have HNS := Lib.hid hns
    obtain ⟨lv, ov, O, hv⟩ := hP1
    have c2 : W1.cell? ⟨A, 2, none⟩ = some (.int .i64 b.term) := hv.cell 2
    have n3 : W1.cell? ⟨Y, 3, none⟩ = some (.int .i64 m.term) := cell_blk j1 3
    obtain ⟨f3, hf3⟩ : ∃ f3, decide (b.term < m.term) = f3 := ⟨_, rfl⟩
    have HF3 := Lib.hid hf3
    obtain ⟨T1, hT1⟩ : ∃ T1, b.take m = T1 := ⟨_, rfl⟩
    clear hns hv j1 hf3 hT1 T1
    go_wp2_with fail
    go_cut [14] (fun v wx => v = .bool f3 ∧ ∃ n, wx = W1.drewN n)
    case first =>
      cases f3 with
      | true =>
        have hd := HF3.out
        go_quiet (fail)
        go_wp2_with fail
        go_meet
        exact ⟨by first | rfl | (rw [hd]), _, rfl⟩
      | false =>
        have hd := HF3.out
        go_quiet (fail)
        go_wp2_with fail
        go_meet
        exact ⟨by first | rfl | (rw [hd]), _, rfl⟩
    case rest =>
      obtain ⟨rfl, n1, hwc⟩ := hcut
      have bn : Below W1.heap.size W1 (W1.drewN n1) := below_draw (Below.refl W1.heap.size W1) n1
      rw [← hwc] at bn
      obtain ⟨V1, rfl⟩ : ∃ V1, V1 = wc := ⟨_, rfl⟩
      have hbV := HBW.out.trans (bn.mono HBW.out.size)
      have hP2 := HP1.out.on bn
      have j2 := (bn.block Y (blk_lt HJ1.out)).trans HJ1.out
      have HBV := Lib.hid hbV
      have HP2 := Lib.hid hP2
      have HJ2 := Lib.hid j2
      have hF2 : Fr w V1 S := Fr.ofBelow S hbV
      have HF2 := Lib.hid hF2
      clear hwc c2 n3 bn
      cases f3 with
      | true =>
        have hlt2 := of_decide_eq_true HF3.out
        obtain ⟨c, hc⟩ : ∃ c, b.newer m = c := ⟨_, rfl⟩
        have hcn : c = { b with term := m.term, vote := -1, role := 0, lead := -1, touched := true } := by rw [← hc]; unfold Bs.newer; rw [if_pos hlt2]
        have okc : Ok c := by rw [← hc]; exact newer_ok HOB.out m
        obtain ⟨a1, g1⟩ := hP2.setf (i := 2) (v := .int .i64 m.term) (b' := { b with term := m.term }) (fun _ _ => rfl) rfl rfl rfl
        obtain ⟨a2, g2⟩ := a1.setf (i := 3) (v := .int .i64 (-1)) (b' := { b with term := m.term, vote := -1 }) (fun _ _ => rfl) rfl rfl rfl
        obtain ⟨a3, g3⟩ := a2.setf (i := 4) (v := .int .i64 0) (b' := { b with term := m.term, vote := -1, role := 0 }) (fun _ _ => rfl) rfl rfl rfl
        obtain ⟨a4, g4⟩ := a3.setf (i := 5) (v := .int .i64 (-1)) (b' := { b with term := m.term, vote := -1, role := 0, lead := -1 }) (fun _ _ => rfl) rfl rfl rfl
        obtain ⟨a5, g5⟩ := a4.setf (i := 26) (v := .bool true) (b' := { b with term := m.term, vote := -1, role := 0, lead := -1, touched := true }) (fun _ _ => rfl) rfl rfl rfl
        obtain ⟨V2, hV2⟩ : ∃ V2, V2 = ((((V1.setCell ⟨A, 2, none⟩ (.int .i64 m.term)).setCell ⟨A, 3, none⟩ (.int .i64 (-1))).setCell ⟨A, 4, none⟩ (.int .i64 0)).setCell ⟨A, 5, none⟩ (.int .i64 (-1))).setCell ⟨A, 26, none⟩ (.bool true) := ⟨_, rfl⟩
        have g15 := (((g1.trans g2).trans g3).trans g4).trans g5
        rw [← hV2, ← hcn] at a5
        rw [← hV2] at g15
        have hF3' := hF2.trans g15
        have j3' := (g15.block Y (blk_lt j2) hYS).trans j2
        obtain ⟨lv, ov, O, hv⟩ := hP2
        have c2 : V1.cell? ⟨A, 2, none⟩ = some (.int .i64 b.term) := hv.cell 2
        have c3 : V1.cell? ⟨A, 3, none⟩ = some (.int .i64 b.vote) := hv.cell 3
        have c4 : V1.cell? ⟨A, 4, none⟩ = some (.int .i64 b.role) := hv.cell 4
        have c5 : V1.cell? ⟨A, 5, none⟩ = some (.int .i64 b.lead) := hv.cell 5
        have c26 : V1.cell? ⟨A, 26, none⟩ = some (.bool b.touched) := hv.cell 26
        have z2 : V1.frozen? ⟨A, 2, none⟩ = false := frozen_blk hv.ob 2
        have z3 : V1.frozen? ⟨A, 3, none⟩ = false := frozen_blk hv.ob 3
        have z4 : V1.frozen? ⟨A, 4, none⟩ = false := frozen_blk hv.ob 4
        have z5 : V1.frozen? ⟨A, 5, none⟩ = false := frozen_blk hv.ob 5
        have z26 : V1.frozen? ⟨A, 26, none⟩ = false := frozen_blk hv.ob 26
        have n3 : V1.cell? ⟨Y, 3, none⟩ = some (.int .i64 m.term) := cell_blk j2 3
        have HP5 := Lib.hid a5
        have HF5 := Lib.hid hF3'
        have HJ5 := Lib.hid j3'
        have HV2 := Lib.hid hV2
        have hP5 := a5
        obtain ⟨lv5, ov5, O5, hv5⟩ := hP5
        have ect : c.term = m.term := by rw [hcn]
        have e2 : V2.cell? ⟨A, 2, none⟩ = some (.int .i64 m.term) := by rw [← ect]; exact hv5.cell 2
        have e3 : V2.cell? ⟨Y, 3, none⟩ = some (.int .i64 m.term) := cell_blk j3' 3
        have hsc : ¬ c.strange m := by have := HNS.out; unfold Bs.strange at this ⊢; rw [hcn]; exact this
        have HS := Lib.hid hsc
        have HOK := Lib.hid okc
        have HN : Hid (Nb c) := by rw [hcn]; exact HNB.out
        have HZ : Hid (c.log.length + m.list.length + 1 ≤ 900000) := by rw [hcn]; exact HZB.out
        have HEQ : Hid (b.take m = (c.act m).sent) := by
          rw [← hc]
          refine take_is HNS.out ?_
          rw [hc, ect]
          omega
        have irr : ¬ m.term < m.term := by omega
        clear hlt2 hc hcn okc a1 a2 a3 a4 a5 g1 g2 g3 g4 g5 g15 hV2 hF3' j3' hv hv5 hsc ect hF2 hbV j2
        go_upto_region 9 with fail
        rw [← HV2.out]
        clear c2 c3 c4 c5 c26 z2 z3 z4 z5 z26 n3
        go_cut [38] (fun v wx => v = .bool false ∧ ∃ n, wx = V2.drewN n)
        case first =>
          go_quiet (fail)
          go_wp2_with fail
          go_meet
          exact ⟨by first | rfl | simp, _, rfl⟩
        case rest =>
          obtain ⟨rfl, n2, hwc⟩ := hcut
          have bn : Below V2.heap.size V2 (V2.drewN n2) := below_draw (Below.refl V2.heap.size V2) n2
          rw [← hwc] at bn
          obtain ⟨V3, rfl⟩ : ∃ V3, V3 = wc := ⟨_, rfl⟩
          have HP3 := Lib.hid (HP5.out.on bn)
          have HJ3 := Lib.hid ((bn.block Y (blk_lt HJ5.out)).trans HJ5.out)
          have HF3' := Lib.hid (HF5.out.below bn)
          have HE3 := Lib.hid (HEE.out.stays HF3'.out (fun k q => .inl q))
          clear hwc bn e2 e3 irr
          obtain ⟨l1, l2, l3, l4, _, _, _, _⟩ := lets HS.out
          have hact := actR HP3.out HOK.out m HE3.out HN.out HZ.out HS.out
          have j3 := HJ3.out
          have y0 : V3.cell? ⟨Y, 0, none⟩ = some (.int .i64 m.kind) := cell_blk j3 0
          have y1 : V3.cell? ⟨Y, 1, none⟩ = some (.int .i64 m.fr) := cell_blk j3 1
          have y2 : V3.cell? ⟨Y, 2, none⟩ = some (.int .i64 m.tgt) := cell_blk j3 2
          have y3 : V3.cell? ⟨Y, 3, none⟩ = some (.int .i64 m.term) := cell_blk j3 3
          have y4 : V3.cell? ⟨Y, 4, none⟩ = some (.int .i64 m.index) := cell_blk j3 4
          have y5 : V3.cell? ⟨Y, 5, none⟩ = some (.int .i64 m.prev) := cell_blk j3 5
          have y6 : V3.cell? ⟨Y, 6, none⟩ = some (.int .i64 m.commit) := cell_blk j3 6
          have y7 : V3.cell? ⟨Y, 7, none⟩ = some (.bool m.good) := cell_blk j3 7
          have y8 : V3.cell? ⟨Y, 8, none⟩ = some (.slice mad m.list.length mcap) := cell_blk j3 8
          have y9 : V3.cell? ⟨Y, 9, none⟩ = some (.string m.snap) := cell_blk j3 9
          clear j3
          by_cases k1 : m.kind = 1
          · have d1 : (m.kind == 1) = true := by simp; omega
            have hs : Calls Try.prog 63 #[.pointer (some ⟨A, 0, none⟩), msV m (.slice mad m.list.length mcap)] V3 fun e w' => e = .returned (.tuple #[]) ∧ Rt w w' A S (c.act m) := (hact 63 (.inl ⟨k1, rfl⟩)).mono fun e w' q => ⟨q.1, Rt.step HF3'.out q.2⟩
            clear hact k1 l1 l2 l3 l4
            go_wp2_with fail
            refine hs.mono ?_
            rintro e w1 ⟨rfl, q⟩
            have hsn := sent_ro q
            clear hs q
            go_wp2_with fail
            refine hsn.mono ?_
            rintro e w2 ⟨ov, rfl, h2⟩
            have HO := Lib.hid h2
            clear hsn h2
            go_wp2
            go_ret
            exact ⟨ov, rfl, by rw [HEQ.out]; exact HO.out⟩
          · by_cases k3 : m.kind = 3
            · have d1 : (m.kind == 1) = false := by simp; omega
              have d2 : (m.kind == 2) = false := by simp; omega
              have d3 : (m.kind == 3) = true := by simp; omega
              have hs : Calls Try.prog 64 #[.pointer (some ⟨A, 0, none⟩), msV m (.slice mad m.list.length mcap)] V3 fun e w' => e = .returned (.tuple #[]) ∧ Rt w w' A S (c.act m) := (hact 64 (.inr (.inl ⟨k3, rfl⟩))).mono fun e w' q => ⟨q.1, Rt.step HF3'.out q.2⟩
              clear hact k3 l1 l2 l3 l4
              go_wp2_with fail
              refine hs.mono ?_
              rintro e w1 ⟨rfl, q⟩
              have hsn := sent_ro q
              clear hs q
              go_wp2_with fail
              refine hsn.mono ?_
              rintro e w2 ⟨ov, rfl, h2⟩
              have HO := Lib.hid h2
              clear hsn h2
              go_wp2
              go_ret
              exact ⟨ov, rfl, by rw [HEQ.out]; exact HO.out⟩
            · by_cases k4 : m.kind = 4
              · have d1 : (m.kind == 1) = false := by simp; omega
                have d2 : (m.kind == 2) = false := by simp; omega
                have d3 : (m.kind == 3) = false := by simp; omega
                have d4 : (m.kind == 4) = true := by simp; omega
                have hs : Calls Try.prog 65 #[.pointer (some ⟨A, 0, none⟩), msV m (.slice mad m.list.length mcap)] V3 fun e w' => e = .returned (.tuple #[]) ∧ Rt w w' A S (c.act m) := (hact 65 (.inr (.inr (.inl ⟨k4, rfl⟩)))).mono fun e w' q => ⟨q.1, Rt.step HF3'.out q.2⟩
                clear hact k4 l1 l2 l3 l4
                go_wp2_with fail
                refine hs.mono ?_
                rintro e w1 ⟨rfl, q⟩
                have hsn := sent_ro q
                clear hs q
                go_wp2_with fail
                refine hsn.mono ?_
                rintro e w2 ⟨ov, rfl, h2⟩
                have HO := Lib.hid h2
                clear hsn h2
                go_wp2
                go_ret
                exact ⟨ov, rfl, by rw [HEQ.out]; exact HO.out⟩
              · by_cases k5 : m.kind = 5
                · have d1 : (m.kind == 1) = false := by simp; omega
                  have d2 : (m.kind == 2) = false := by simp; omega
                  have d3 : (m.kind == 3) = false := by simp; omega
                  have d4 : (m.kind == 4) = false := by simp; omega
                  have d5 : (m.kind == 5) = true := by simp; omega
                  have hs : Calls Try.prog 66 #[.pointer (some ⟨A, 0, none⟩), msV m (.slice mad m.list.length mcap)] V3 fun e w' => e = .returned (.tuple #[]) ∧ Rt w w' A S (c.act m) := (hact 66 (.inr (.inr (.inr ⟨k5, rfl⟩)))).mono fun e w' q => ⟨q.1, Rt.step HF3'.out q.2⟩
                  clear hact k5 l1 l2 l3 l4
                  go_wp2_with fail
                  refine hs.mono ?_
                  rintro e w1 ⟨rfl, q⟩
                  have hsn := sent_ro q
                  clear hs q
                  go_wp2_with fail
                  refine hsn.mono ?_
                  rintro e w2 ⟨ov, rfl, h2⟩
                  have HO := Lib.hid h2
                  clear hsn h2
                  go_wp2
                  go_ret
                  exact ⟨ov, rfl, by rw [HEQ.out]; exact HO.out⟩
                · have k2 : m.kind = 2 := by omega
                  have d1 : (m.kind == 1) = false := by simp; omega
                  have d2 : (m.kind == 2) = true := by simp; omega
                  have HACT : Hid (c.act m = c.vote' m) := Lib.hid (by unfold Bs.act; rw [if_neg (by omega), if_pos k2])
                  obtain ⟨f, hf⟩ : ∃ f : Nat, m.fr = f := ⟨m.fr.toNat, by omega⟩
                  have hi5 := HOK.out.inv.sz
                  have hf5 : f < 5 := by omega
                  have f0 : (0 : Int) ≤ f := by omega
                  have f5 : (f : Int) < 5 := by omega
                  have hft : m.fr.toNat = f := by omega
                  have hP3 := HP3.out
                  obtain ⟨lv3, ov3, O3, hv3⟩ := hP3
                  have g4 : V3.cell? ⟨A, 4, none⟩ = some (.int .i64 c.role) := hv3.cell 4
                  have gh := hv3.hasc hf5
                  have zh : V3.frozen? ⟨A, 10 + f, none⟩ = false := frozen_blk hv3.ob _
                  obtain ⟨hx, hhx⟩ : ∃ hx, c.has.getD f false = hx := ⟨_, rfl⟩
                  rw [hhx] at gh
                  by_cases r1 : c.role = 1
                  · have r1' : (c.role == 1) = true := by simpa using r1
                    cases hgd : m.good with
                    | true =>
                      have HEQ2 : Hid (b.take m = (({ c with has := c.has.set f true } : Bs).count).sent) := Lib.hid (by
                        rw [HEQ.out, HACT.out]
                        unfold Bs.vote'
                        rw [if_pos ⟨r1, hgd⟩, hft])
                      have hst : ∀ n, Hid (Calls Try.prog 57 #[.pointer (some ⟨A, 0, none⟩)] ((V3.drewN n).setCell ⟨A, 10 + f, none⟩ (.bool true)) fun e w' => e = .returned (.tuple #[]) ∧ Rt w w' A S (({ c with has := c.has.set f true } : Bs).count)) := by
                        intro n
                        obtain ⟨s1, s2⟩ := (HP3.out.drewN n).has_set hf5 HOK.out.inv.hs true
                        have ho : c.out.length = 0 := by rw [HOK.out.out]; rfl
                        refine (count_any s1 (inv_has HOK.out.inv f true) (by show c.out.length < 700000; omega) HN.out (by show c.log.length < 900000; have := HZ.out; omega)).mono ?_
                        rintro e w' ⟨rfl, q⟩
                        exact ⟨rfl, Rt.step ((HF3'.out.drewN n).trans s2) q⟩
                      rw [hgd] at y7
                      rw [hf] at y1
                      clear hact k2 l1 l2 l3 l4 hf hft hv3 hhx r1 hgd
                      go_upto_region 20 with fail
                      go_cut [] (fun wx => ∃ n, wx = (V3.drewN n).setCell ⟨A, 10 + f, none⟩ (.bool true))
                      case first =>
                        go_region
                        go_wp2_with fail
                        go_meet
                        exact ⟨1, rfl⟩
                      case rest =>
                        obtain ⟨n, rfl⟩ := hcut
                        have hs := (hst n).out
                        clear hst
                        go_wp2_with fail
                        refine hs.mono ?_
                        rintro e w1 ⟨rfl, q⟩
                        have hsn := sent_ro q
                        clear hs q
                        go_wp2_with fail
                        refine hsn.mono ?_
                        rintro e w2 ⟨ov, rfl, h2⟩
                        have HO := Lib.hid h2
                        clear hsn h2
                        go_wp2
                        go_ret
                        exact ⟨ov, rfl, by rw [HEQ2.out]; exact HO.out⟩
                    | false =>
                      have HEQ2 : Hid (b.take m = c.sent) := Lib.hid (by
                        rw [HEQ.out, HACT.out]
                        unfold Bs.vote'
                        rw [if_neg (fun q => by rw [hgd] at q; exact absurd q.2 (by decide))])
                      have hsn := sent_ro (Rt.start HP3.out HF3'.out)
                      rw [hgd] at y7
                      clear hact k2 l1 l2 l3 l4 hf hft hv3 hhx r1 hgd
                      go_wp2_with fail
                      refine hsn.mono ?_
                      rintro e w2 ⟨ov, rfl, h2⟩
                      have HO := Lib.hid h2
                      clear hsn h2
                      go_wp2
                      go_ret
                      exact ⟨ov, rfl, by rw [HEQ2.out]; exact HO.out⟩
                  · have r1' : (c.role == 1) = false := by simpa using r1
                    have HEQ2 : Hid (b.take m = c.sent) := Lib.hid (by
                      rw [HEQ.out, HACT.out]
                      unfold Bs.vote'
                      rw [if_neg (fun q => r1 q.1)])
                    have hsn := sent_ro (Rt.start HP3.out HF3'.out)
                    clear hact k2 l1 l2 l3 l4 hf hft hv3 hhx r1
                    go_wp2_with fail
                    refine hsn.mono ?_
                    rintro e w2 ⟨ov, rfl, h2⟩
                    have HO := Lib.hid h2
                    clear hsn h2
                    go_wp2
                    go_ret
                    exact ⟨ov, rfl, by rw [HEQ2.out]; exact HO.out⟩
      | false =>
        have hnl := of_decide_eq_false HF3.out
        have hc : b.newer m = b := by unfold Bs.newer; rw [if_neg hnl]
        obtain ⟨lv, ov, O, hv⟩ := hP2
        have c2 : V1.cell? ⟨A, 2, none⟩ = some (.int .i64 b.term) := hv.cell 2
        have n3 : V1.cell? ⟨Y, 3, none⟩ = some (.int .i64 m.term) := cell_blk j2 3
        obtain ⟨f9, hf9⟩ : ∃ f9, decide (m.term < b.term) = f9 := ⟨_, rfl⟩
        have HF9 := Lib.hid hf9
        have HC := Lib.hid hc
        clear hnl hc hv hf9 hF2 hbV j2
        go_wp2_with fail
        go_cut [38] (fun v wx => v = .bool f9 ∧ ∃ n, wx = V1.drewN n)
        case first =>
          cases f9 with
          | true =>
            have hd := HF9.out
            go_quiet (fail)
            go_wp2_with fail
            go_meet
            exact ⟨by first | rfl | (rw [hd]), _, rfl⟩
          | false =>
            have hd := HF9.out
            go_quiet (fail)
            go_wp2_with fail
            go_meet
            exact ⟨by first | rfl | (rw [hd]), _, rfl⟩
        case rest =>
          obtain ⟨rfl, n2, hwc⟩ := hcut
          have bn : Below V1.heap.size V1 (V1.drewN n2) := below_draw (Below.refl V1.heap.size V1) n2
          rw [← hwc] at bn
          obtain ⟨V3, rfl⟩ : ∃ V3, V3 = wc := ⟨_, rfl⟩
          have HP3 := Lib.hid (HP2.out.on bn)
          have HJ3 := Lib.hid ((bn.block Y (blk_lt HJ2.out)).trans HJ2.out)
          have HF3' := Lib.hid (HF2.out.below bn)
          have HE3 := Lib.hid (HEE.out.stays HF3'.out (fun k q => .inl q))
          clear hwc bn c2 n3
          cases f9 with
          | true =>
            have HEQ : Hid (b.take m = (b.old m).sent) := by
              have := take_was (b := b) HNS.out (by rw [HC.out]; exact of_decide_eq_true HF9.out)
              rw [HC.out] at this
              exact this
            have j3 := HJ3.out
            have y0 : V3.cell? ⟨Y, 0, none⟩ = some (.int .i64 m.kind) := cell_blk j3 0
            have y1 : V3.cell? ⟨Y, 1, none⟩ = some (.int .i64 m.fr) := cell_blk j3 1
            have ho : b.out.length = 0 := by rw [HOB.out.out]; rfl
            obtain ⟨l1, l2, l3, l4, _, _, _, _⟩ := lets HNS.out
            by_cases k1 : m.kind = 1
            · have d1 : (m.kind == 1) = true := by simpa using k1
              have d3 : (m.kind == 3) = false := by simp; omega
              have d5 : (m.kind == 5) = false := by simp; omega
              have HOLD : Hid (b.old m = b.send { ms0 with kind := 2, tgt := m.fr }) := Lib.hid (by unfold Bs.old; rw [if_pos k1])
              have hs : Calls Try.prog 55 #[.pointer (some ⟨A, 0, none⟩), .agg (msCs { ms0 with kind := 2, tgt := m.fr } (.slice none 0 0))] V3 fun e w' => e = .returned (.tuple #[]) ∧ Hid (Rt w w' A S (b.old m)) ∧ w'.cell? ⟨Y, 0, none⟩ = some (.int .i64 m.kind) := by
                rw [HOLD.out]
                refine (send_any (m := { ms0 with kind := 2, tgt := m.fr }) (mv := .slice none 0 0) HP3.out (Es.nil _ _) (by omega)).mono ?_
                rintro e w' ⟨rfl, q1, q2⟩
                exact ⟨rfl, Rt.step HF3'.out (Rt.of q1 q2), cell_blk ((q2.block Y (blk_lt HJ3.out) hYS).trans HJ3.out) 0⟩
              clear j3 k1 l1 l2 l3 l4 ho
              go_wp2_with fail
              refine hs.mono ?_
              rintro e w1 ⟨rfl, q, x0⟩
              have hsn := sent_ro q.out
              clear hs q y0 y1
              go_wp2_with fail
              refine hsn.mono ?_
              rintro e w2 ⟨ov, rfl, h2⟩
              have HO := Lib.hid h2
              clear hsn h2
              go_wp2
              go_ret
              exact ⟨ov, rfl, by rw [HEQ.out]; exact HO.out⟩
            · by_cases k3 : m.kind = 3 ∨ m.kind = 5
              · have d1 : (m.kind == 1) = false := by simpa using k1
                have HOLD : Hid (b.old m = b.send { ms0 with kind := 4, tgt := m.fr, index := b.last }) := Lib.hid (by unfold Bs.old; rw [if_neg k1, if_pos k3])
                have hlast := fun n => last_any (HP3.out.drewN n)
                obtain ⟨La, hLa⟩ : ∃ La, b.last = La := ⟨_, rfl⟩
                rw [hLa] at hlast
                have hs : ∀ n, Hid (Calls Try.prog 55 #[.pointer (some ⟨A, 0, none⟩), .agg (msCs { ms0 with kind := 4, tgt := m.fr, index := La } (.slice none 0 0))] (V3.drewN n) fun e w' => e = .returned (.tuple #[]) ∧ Rt w w' A S (b.old m)) := by
                  intro n
                  rw [HOLD.out, hLa]
                  refine (send_any (m := { ms0 with kind := 4, tgt := m.fr, index := La }) (mv := .slice none 0 0) (HP3.out.drewN n) (Es.nil _ _) (by omega)).mono ?_
                  rintro e w' ⟨rfl, q1, q2⟩
                  exact ⟨rfl, Rt.step (HF3'.out.drewN n) (Rt.of q1 q2)⟩
                clear j3 l1 l2 l3 l4 ho hLa
                have hcase : ((m.kind == 3) = true ∧ (m.kind == 5) = false) ∨ ((m.kind == 3) = false ∧ (m.kind == 5) = true) := by
                  rcases k3 with q | q
                  · exact .inl ⟨by simpa using q, by simp; omega⟩
                  · exact .inr ⟨by simp; omega, by simpa using q⟩
                clear k3 k1
                rcases hcase with ⟨d3, d5⟩ | ⟨d3, d5⟩
                · go_wp2_with fail
                  refine wp_region_last (fun X => ∃ n, X = V3.drewN n) (fun _ _ => True) [
                    fun v _ => v = .pointer (some ⟨A, 0, none⟩),
                    fun v _ => v = .pointer (some ⟨Y, 1, none⟩),
                    fun v _ => v = .int .i64 m.fr,
                    fun v _ => v = .pointer (some ⟨A, 0, none⟩),
                    fun v _ => v = .int .i64 La,
                    fun v _ => v = .agg (msCs { ms0 with kind := 4, tgt := m.fr, index := La } (.slice none 0 0))]
                    (fun _ X => Rt w X A S (b.old m)) rfl (by kernel_rfl) (by kernel_rfl) (by kernel_rfl) (by kernel_rfl) ?st ?g0 ?os ?la ?en
                  case st => exact ⟨fun _ _ _ _ h => h, fun _ _ _ _ h => h, fun _ _ _ _ h => h, fun _ _ _ _ h => h, fun _ _ _ _ h => h, fun _ _ _ _ h => h, trivial⟩
                  case g0 => exact ⟨1, rfl⟩
                  case os =>
                    refine ⟨?_, ?_, ?_, ?_, ?_, ?_, trivial⟩
                    · refine ⟨rfl, fun ρ X hg ho hc hf hr => ?_⟩
                      obtain ⟨n, rfl⟩ := hg
                      exact Runs.val _ (op_move (show ρ (.tmp 0) = .pointer (some ⟨A, 0, none⟩) from ho 0 rfl)) ⟨⟨n, rfl⟩, trivial, rfl⟩
                    · refine ⟨rfl, fun ρ X hg ho hc hf hr => ?_⟩
                      obtain ⟨n, rfl⟩ := hg
                      exact Runs.val _ (op_f34_1 (show ρ (.tmp 3) = .pointer (some ⟨Y, 0, none⟩) from ho 3 rfl)) ⟨⟨n, rfl⟩, trivial, rfl⟩
                    · refine ⟨rfl, fun ρ X hg ho hc hf hr => ?_⟩
                      obtain ⟨n, rfl⟩ := hg
                      exact Runs.val _ (op_load3 (show ρ (.tmp 56) = .pointer (some ⟨Y, 1, none⟩) from hr 1 56 rfl rfl) (cell_on (below_draw (Below.refl _ V3) n) y1)) ⟨⟨n, rfl⟩, trivial, rfl⟩
                    · refine ⟨rfl, fun ρ X hg ho hc hf hr => ?_⟩
                      obtain ⟨n, rfl⟩ := hg
                      exact Runs.val _ (op_move (show ρ (.tmp 0) = .pointer (some ⟨A, 0, none⟩) from ho 0 rfl)) ⟨⟨n, rfl⟩, trivial, rfl⟩
                    · refine ⟨rfl, fun ρ X hg ho hc hf hr => ?_⟩
                      obtain ⟨n, rfl⟩ := hg
                      refine Runs.goes 38 #[.pointer (some ⟨A, 0, none⟩)] (op_call1 hf call38 (show ρ (.tmp 58) = .pointer (some ⟨A, 0, none⟩) from hr 3 58 rfl rfl)) ((hlast n).mono ?_)
                      rintro e7 w7 ⟨rfl, n7, rfl⟩
                      exact ⟨_, rfl, ⟨_, World.drewN_drewN ..⟩, trivial, rfl⟩
                    · refine ⟨rfl, fun ρ X hg ho hc hf hr => ?_⟩
                      obtain ⟨n, rfl⟩ := hg
                      exact Runs.val _ (op_msg hc (show ρ (.tmp 57) = .int .i64 m.fr from hr 2 57 rfl rfl) (show ρ (.tmp 59) = .int .i64 La from hr 4 59 rfl rfl)) ⟨⟨n, rfl⟩, trivial, rfl⟩
                  case la =>
                    refine ⟨rfl, fun ρ X hg ho hc hf hr => ?_⟩
                    obtain ⟨n, rfl⟩ := hg
                    refine Runs.goes 55 #[.pointer (some ⟨A, 0, none⟩), .agg (msCs { ms0 with kind := 4, tgt := m.fr, index := La } (.slice none 0 0))] (op_call2 hf call55 (show ρ (.tmp 55) = .pointer (some ⟨A, 0, none⟩) from hr 0 55 (by decide) rfl) (show ρ (.tmp 60) = .agg (msCs { ms0 with kind := 4, tgt := m.fr, index := La } (.slice none 0 0)) from hr 5 60 (by decide) rfl)) ((hs n).out.mono ?_)
                    rintro e8 w8 ⟨rfl, q8⟩
                    exact ⟨_, rfl, q8⟩
                  case en =>
                    intro a X Xb v hF hs2 hd ho hv hr
                    obtain ⟨x, hx, hxt⟩ := act_put hs2 hd ho
                    change a = putAll _ x [55, 56, 57, 58, 59, 60, 61] at hx
                    simp only [putAll, Act.put, List.setIfInBounds_toArray, List.set_cons_zero, List.set_cons_succ] at hx
                    have hsn := sent_ro hF
                    clear hF hs2 hd ho hr hv hxt hs hlast y0 y1
                    subst hx
                    go_wp2_with fail
                    refine hsn.mono ?_
                    rintro e w2 ⟨ov, rfl, h2⟩
                    have HO := Lib.hid h2
                    clear hsn h2
                    go_wp2
                    go_ret
                    exact ⟨ov, rfl, by rw [HEQ.out]; exact HO.out⟩
                · go_wp2_with fail
                  refine wp_region_last (fun X => ∃ n, X = V3.drewN n) (fun _ _ => True) [
                    fun v _ => v = .pointer (some ⟨A, 0, none⟩),
                    fun v _ => v = .pointer (some ⟨Y, 1, none⟩),
                    fun v _ => v = .int .i64 m.fr,
                    fun v _ => v = .pointer (some ⟨A, 0, none⟩),
                    fun v _ => v = .int .i64 La,
                    fun v _ => v = .agg (msCs { ms0 with kind := 4, tgt := m.fr, index := La } (.slice none 0 0))]
                    (fun _ X => Rt w X A S (b.old m)) rfl (by kernel_rfl) (by kernel_rfl) (by kernel_rfl) (by kernel_rfl) ?st ?g0 ?os ?la ?en
                  case st => exact ⟨fun _ _ _ _ h => h, fun _ _ _ _ h => h, fun _ _ _ _ h => h, fun _ _ _ _ h => h, fun _ _ _ _ h => h, fun _ _ _ _ h => h, trivial⟩
                  case g0 => exact ⟨1, rfl⟩
                  case os =>
                    refine ⟨?_, ?_, ?_, ?_, ?_, ?_, trivial⟩
                    · refine ⟨rfl, fun ρ X hg ho hc hf hr => ?_⟩
                      obtain ⟨n, rfl⟩ := hg
                      exact Runs.val _ (op_move (show ρ (.tmp 0) = .pointer (some ⟨A, 0, none⟩) from ho 0 rfl)) ⟨⟨n, rfl⟩, trivial, rfl⟩
                    · refine ⟨rfl, fun ρ X hg ho hc hf hr => ?_⟩
                      obtain ⟨n, rfl⟩ := hg
                      exact Runs.val _ (op_f34_1 (show ρ (.tmp 3) = .pointer (some ⟨Y, 0, none⟩) from ho 3 rfl)) ⟨⟨n, rfl⟩, trivial, rfl⟩
                    · refine ⟨rfl, fun ρ X hg ho hc hf hr => ?_⟩
                      obtain ⟨n, rfl⟩ := hg
                      exact Runs.val _ (op_load3 (show ρ (.tmp 56) = .pointer (some ⟨Y, 1, none⟩) from hr 1 56 rfl rfl) (cell_on (below_draw (Below.refl _ V3) n) y1)) ⟨⟨n, rfl⟩, trivial, rfl⟩
                    · refine ⟨rfl, fun ρ X hg ho hc hf hr => ?_⟩
                      obtain ⟨n, rfl⟩ := hg
                      exact Runs.val _ (op_move (show ρ (.tmp 0) = .pointer (some ⟨A, 0, none⟩) from ho 0 rfl)) ⟨⟨n, rfl⟩, trivial, rfl⟩
                    · refine ⟨rfl, fun ρ X hg ho hc hf hr => ?_⟩
                      obtain ⟨n, rfl⟩ := hg
                      refine Runs.goes 38 #[.pointer (some ⟨A, 0, none⟩)] (op_call1 hf call38 (show ρ (.tmp 58) = .pointer (some ⟨A, 0, none⟩) from hr 3 58 rfl rfl)) ((hlast n).mono ?_)
                      rintro e7 w7 ⟨rfl, n7, rfl⟩
                      exact ⟨_, rfl, ⟨_, World.drewN_drewN ..⟩, trivial, rfl⟩
                    · refine ⟨rfl, fun ρ X hg ho hc hf hr => ?_⟩
                      obtain ⟨n, rfl⟩ := hg
                      exact Runs.val _ (op_msg hc (show ρ (.tmp 57) = .int .i64 m.fr from hr 2 57 rfl rfl) (show ρ (.tmp 59) = .int .i64 La from hr 4 59 rfl rfl)) ⟨⟨n, rfl⟩, trivial, rfl⟩
                  case la =>
                    refine ⟨rfl, fun ρ X hg ho hc hf hr => ?_⟩
                    obtain ⟨n, rfl⟩ := hg
                    refine Runs.goes 55 #[.pointer (some ⟨A, 0, none⟩), .agg (msCs { ms0 with kind := 4, tgt := m.fr, index := La } (.slice none 0 0))] (op_call2 hf call55 (show ρ (.tmp 55) = .pointer (some ⟨A, 0, none⟩) from hr 0 55 (by decide) rfl) (show ρ (.tmp 60) = .agg (msCs { ms0 with kind := 4, tgt := m.fr, index := La } (.slice none 0 0)) from hr 5 60 (by decide) rfl)) ((hs n).out.mono ?_)
                    rintro e8 w8 ⟨rfl, q8⟩
                    exact ⟨_, rfl, q8⟩
                  case en =>
                    intro a X Xb v hF hs2 hd ho hv hr
                    obtain ⟨x, hx, hxt⟩ := act_put hs2 hd ho
                    change a = putAll _ x [55, 56, 57, 58, 59, 60, 61] at hx
                    simp only [putAll, Act.put, List.setIfInBounds_toArray, List.set_cons_zero, List.set_cons_succ] at hx
                    have hsn := sent_ro hF
                    clear hF hs2 hd ho hr hv hxt hs hlast y0 y1
                    subst hx
                    go_wp2_with fail
                    refine hsn.mono ?_
                    rintro e w2 ⟨ov, rfl, h2⟩
                    have HO := Lib.hid h2
                    clear hsn h2
                    go_wp2
                    go_ret
                    exact ⟨ov, rfl, by rw [HEQ.out]; exact HO.out⟩
              · have d1 : (m.kind == 1) = false := by simpa using k1
                have d3 : (m.kind == 3) = false := by simp; omega
                have d5 : (m.kind == 5) = false := by simp; omega
                have HOLD : Hid (b.old m = b) := Lib.hid (by unfold Bs.old; rw [if_neg k1, if_neg k3])
                have hsn := sent_ro (Rt.start HP3.out HF3'.out)
                clear j3 l1 l2 l3 l4 ho k1 k3
                go_wp2_with fail
                refine hsn.mono ?_
                rintro e w2 ⟨ov, rfl, h2⟩
                have HO := Lib.hid h2
                clear hsn h2
                go_wp2
                go_ret
                exact ⟨ov, rfl, by rw [HEQ.out, HOLD.out]; exact HO.out⟩
          | false =>
            have HEQ : Hid (b.take m = (b.act m).sent) := by
              have := take_is (b := b) HNS.out (by rw [HC.out]; exact of_decide_eq_false HF9.out)
              rw [HC.out] at this
              exact this
            obtain ⟨l1, l2, l3, l4, _, _, _, _⟩ := lets HNS.out
            have hact := actR HP3.out HOB.out m HE3.out HNB.out HZB.out HNS.out
            have j3 := HJ3.out
            have y0 : V3.cell? ⟨Y, 0, none⟩ = some (.int .i64 m.kind) := cell_blk j3 0
            have y1 : V3.cell? ⟨Y, 1, none⟩ = some (.int .i64 m.fr) := cell_blk j3 1
            have y2 : V3.cell? ⟨Y, 2, none⟩ = some (.int .i64 m.tgt) := cell_blk j3 2
            have y3 : V3.cell? ⟨Y, 3, none⟩ = some (.int .i64 m.term) := cell_blk j3 3
            have y4 : V3.cell? ⟨Y, 4, none⟩ = some (.int .i64 m.index) := cell_blk j3 4
            have y5 : V3.cell? ⟨Y, 5, none⟩ = some (.int .i64 m.prev) := cell_blk j3 5
            have y6 : V3.cell? ⟨Y, 6, none⟩ = some (.int .i64 m.commit) := cell_blk j3 6
            have y7 : V3.cell? ⟨Y, 7, none⟩ = some (.bool m.good) := cell_blk j3 7
            have y8 : V3.cell? ⟨Y, 8, none⟩ = some (.slice mad m.list.length mcap) := cell_blk j3 8
            have y9 : V3.cell? ⟨Y, 9, none⟩ = some (.string m.snap) := cell_blk j3 9
            clear j3
            by_cases k1 : m.kind = 1
            · have d1 : (m.kind == 1) = true := by simp; omega
              have hs : Calls Try.prog 63 #[.pointer (some ⟨A, 0, none⟩), msV m (.slice mad m.list.length mcap)] V3 fun e w' => e = .returned (.tuple #[]) ∧ Rt w w' A S (b.act m) := (hact 63 (.inl ⟨k1, rfl⟩)).mono fun e w' q => ⟨q.1, Rt.step HF3'.out q.2⟩
              clear hact k1 l1 l2 l3 l4
              go_wp2_with fail
              refine hs.mono ?_
              rintro e w1 ⟨rfl, q⟩
              have hsn := sent_ro q
              clear hs q
              go_wp2_with fail
              refine hsn.mono ?_
              rintro e w2 ⟨ov, rfl, h2⟩
              have HO := Lib.hid h2
              clear hsn h2
              go_wp2
              go_ret
              exact ⟨ov, rfl, by rw [HEQ.out]; exact HO.out⟩
            · by_cases k3 : m.kind = 3
              · have d1 : (m.kind == 1) = false := by simp; omega
                have d2 : (m.kind == 2) = false := by simp; omega
                have d3 : (m.kind == 3) = true := by simp; omega
                have hs : Calls Try.prog 64 #[.pointer (some ⟨A, 0, none⟩), msV m (.slice mad m.list.length mcap)] V3 fun e w' => e = .returned (.tuple #[]) ∧ Rt w w' A S (b.act m) := (hact 64 (.inr (.inl ⟨k3, rfl⟩))).mono fun e w' q => ⟨q.1, Rt.step HF3'.out q.2⟩
                clear hact k3 l1 l2 l3 l4
                go_wp2_with fail
                refine hs.mono ?_
                rintro e w1 ⟨rfl, q⟩
                have hsn := sent_ro q
                clear hs q
                go_wp2_with fail
                refine hsn.mono ?_
                rintro e w2 ⟨ov, rfl, h2⟩
                have HO := Lib.hid h2
                clear hsn h2
                go_wp2
                go_ret
                exact ⟨ov, rfl, by rw [HEQ.out]; exact HO.out⟩
              · by_cases k4 : m.kind = 4
                · have d1 : (m.kind == 1) = false := by simp; omega
                  have d2 : (m.kind == 2) = false := by simp; omega
                  have d3 : (m.kind == 3) = false := by simp; omega
                  have d4 : (m.kind == 4) = true := by simp; omega
                  have hs : Calls Try.prog 65 #[.pointer (some ⟨A, 0, none⟩), msV m (.slice mad m.list.length mcap)] V3 fun e w' => e = .returned (.tuple #[]) ∧ Rt w w' A S (b.act m) := (hact 65 (.inr (.inr (.inl ⟨k4, rfl⟩)))).mono fun e w' q => ⟨q.1, Rt.step HF3'.out q.2⟩
                  clear hact k4 l1 l2 l3 l4
                  go_wp2_with fail
                  refine hs.mono ?_
                  rintro e w1 ⟨rfl, q⟩
                  have hsn := sent_ro q
                  clear hs q
                  go_wp2_with fail
                  refine hsn.mono ?_
                  rintro e w2 ⟨ov, rfl, h2⟩
                  have HO := Lib.hid h2
                  clear hsn h2
                  go_wp2
                  go_ret
                  exact ⟨ov, rfl, by rw [HEQ.out]; exact HO.out⟩
                · by_cases k5 : m.kind = 5
                  · have d1 : (m.kind == 1) = false := by simp; omega
                    have d2 : (m.kind == 2) = false := by simp; omega
                    have d3 : (m.kind == 3) = false := by simp; omega
                    have d4 : (m.kind == 4) = false := by simp; omega
                    have d5 : (m.kind == 5) = true := by simp; omega
                    have hs : Calls Try.prog 66 #[.pointer (some ⟨A, 0, none⟩), msV m (.slice mad m.list.length mcap)] V3 fun e w' => e = .returned (.tuple #[]) ∧ Rt w w' A S (b.act m) := (hact 66 (.inr (.inr (.inr ⟨k5, rfl⟩)))).mono fun e w' q => ⟨q.1, Rt.step HF3'.out q.2⟩
                    clear hact k5 l1 l2 l3 l4
                    go_wp2_with fail
                    refine hs.mono ?_
                    rintro e w1 ⟨rfl, q⟩
                    have hsn := sent_ro q
                    clear hs q
                    go_wp2_with fail
                    refine hsn.mono ?_
                    rintro e w2 ⟨ov, rfl, h2⟩
                    have HO := Lib.hid h2
                    clear hsn h2
                    go_wp2
                    go_ret
                    exact ⟨ov, rfl, by rw [HEQ.out]; exact HO.out⟩
                  · have k2 : m.kind = 2 := by omega
                    have d1 : (m.kind == 1) = false := by simp; omega
                    have d2 : (m.kind == 2) = true := by simp; omega
                    have HACT : Hid (b.act m = b.vote' m) := Lib.hid (by unfold Bs.act; rw [if_neg (by omega), if_pos k2])
                    obtain ⟨f, hf⟩ : ∃ f : Nat, m.fr = f := ⟨m.fr.toNat, by omega⟩
                    have hi5 := HOB.out.inv.sz
                    have hf5 : f < 5 := by omega
                    have f0 : (0 : Int) ≤ f := by omega
                    have f5 : (f : Int) < 5 := by omega
                    have hft : m.fr.toNat = f := by omega
                    have hP3 := HP3.out
                    obtain ⟨lv3, ov3, O3, hv3⟩ := hP3
                    have g4 : V3.cell? ⟨A, 4, none⟩ = some (.int .i64 b.role) := hv3.cell 4
                    have gh := hv3.hasc hf5
                    have zh : V3.frozen? ⟨A, 10 + f, none⟩ = false := frozen_blk hv3.ob _
                    obtain ⟨hx, hhx⟩ : ∃ hx, b.has.getD f false = hx := ⟨_, rfl⟩
                    rw [hhx] at gh
                    by_cases r1 : b.role = 1
                    · have r1' : (b.role == 1) = true := by simpa using r1
                      cases hgd : m.good with
                      | true =>
                        have HEQ2 : Hid (b.take m = (({ b with has := b.has.set f true } : Bs).count).sent) := Lib.hid (by
                          rw [HEQ.out, HACT.out]
                          unfold Bs.vote'
                          rw [if_pos ⟨r1, hgd⟩, hft])
                        have hst : ∀ n, Hid (Calls Try.prog 57 #[.pointer (some ⟨A, 0, none⟩)] ((V3.drewN n).setCell ⟨A, 10 + f, none⟩ (.bool true)) fun e w' => e = .returned (.tuple #[]) ∧ Rt w w' A S (({ b with has := b.has.set f true } : Bs).count)) := by
                          intro n
                          obtain ⟨s1, s2⟩ := (HP3.out.drewN n).has_set hf5 HOB.out.inv.hs true
                          have ho : b.out.length = 0 := by rw [HOB.out.out]; rfl
                          refine (count_any s1 (inv_has HOB.out.inv f true) (by show b.out.length < 700000; omega) HNB.out (by show b.log.length < 900000; have := HZB.out; omega)).mono ?_
                          rintro e w' ⟨rfl, q⟩
                          exact ⟨rfl, Rt.step ((HF3'.out.drewN n).trans s2) q⟩
                        rw [hgd] at y7
                        rw [hf] at y1
                        clear hact k2 l1 l2 l3 l4 hf hft hv3 hhx r1 hgd
                        go_upto_region 20 with fail
                        go_cut [] (fun wx => ∃ n, wx = (V3.drewN n).setCell ⟨A, 10 + f, none⟩ (.bool true))
                        case first =>
                          go_region
                          go_wp2_with fail
                          go_meet
                          exact ⟨1, rfl⟩
                        case rest =>
                          obtain ⟨n, rfl⟩ := hcut
                          have hs := (hst n).out
                          clear hst
                          go_wp2_with fail
                          refine hs.mono ?_
                          rintro e w1 ⟨rfl, q⟩
                          have hsn := sent_ro q
                          clear hs q
                          go_wp2_with fail
                          refine hsn.mono ?_
                          rintro e w2 ⟨ov, rfl, h2⟩
                          have HO := Lib.hid h2
                          clear hsn h2
                          go_wp2
                          go_ret
                          exact ⟨ov, rfl, by rw [HEQ2.out]; exact HO.out⟩
                      | false =>
                        have HEQ2 : Hid (b.take m = b.sent) := Lib.hid (by
                          rw [HEQ.out, HACT.out]
                          unfold Bs.vote'
                          rw [if_neg (fun q => by rw [hgd] at q; exact absurd q.2 (by decide))])
                        have hsn := sent_ro (Rt.start HP3.out HF3'.out)
                        rw [hgd] at y7
                        clear hact k2 l1 l2 l3 l4 hf hft hv3 hhx r1 hgd
                        go_wp2_with fail
                        refine hsn.mono ?_
                        rintro e w2 ⟨ov, rfl, h2⟩
                        have HO := Lib.hid h2
                        clear hsn h2
                        go_wp2
                        go_ret
                        exact ⟨ov, rfl, by rw [HEQ2.out]; exact HO.out⟩
                    · have r1' : (b.role == 1) = false := by simpa using r1
                      have HEQ2 : Hid (b.take m = b.sent) := Lib.hid (by
                        rw [HEQ.out, HACT.out]
                        unfold Bs.vote'
                        rw [if_neg (fun q => r1 q.1)])
                      have hsn := sent_ro (Rt.start HP3.out HF3'.out)
                      clear hact k2 l1 l2 l3 l4 hf hft hv3 hhx r1
                      go_wp2_with fail
                      refine hsn.mono ?_
                      rintro e w2 ⟨ov, rfl, h2⟩
                      have HO := Lib.hid h2
                      clear hsn h2
                      go_wp2
                      go_ret
                      exact ⟨ov, rfl, by rw [HEQ2.out]; exact HO.out⟩
end
end Go.Proofs.Ytmiagjcihmenfaa
