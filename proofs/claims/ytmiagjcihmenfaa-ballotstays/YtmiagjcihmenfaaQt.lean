/- The walk of the program's takeFeed where entries are taken over. -/
import Derived.Test.YtmiagjcihmenfaaQq
namespace Go.Proofs.Ytmiagjcihmenfaa
open Go.RowKit

section
variable {w w' : World} {A : Nat} {S T : Nat → Prop} {b : Bs} {lv : Value} {pf : Int}
set_option maxHeartbeats 1000000 in
set_option maxRecDepth 100000 in
theorem takeFeed_e (h : Pb w A S b) (ok : Ok b) (m : Ms) {mad : Option Addr} {mcap : Nat} (hE : Es w S m.list (.slice mad m.list.length mcap)) (hz : b.log.length + m.list.length ≤ 900000) (hi0 : 0 ≤ m.index) (hi1 : m.index ≤ 1099511627776) (hp0 : 0 ≤ m.prev) (hr : b.role ≠ 2) (h1n : ¬ m.index + m.list.length ≤ b.commit) (hc1 : ¬ (b.commit ≤ m.index ∧ b.termAt m.index ≠ m.prev)) : Calls Try.prog 76 #[.pointer (some ⟨A, 0, none⟩), msV m (.slice mad m.list.length mcap)] w fun e w' => ∃ ov, e = .returned ov ∧ Po w w' A S (b.entries m).sent.1 (b.entries m).sent.2 ov := by
  have HN1 := Lib.hid h1n
  have HC1 := Lib.hid hc1
  clear h1n hc1
  have hlt := h.lt
  obtain ⟨W, hB⟩ := Bx.mk' h m (.slice mad m.list.length mcap)
  have hA := hB.pb
  have HW := Lib.hid hB.eq
  have hfw : Fr w W S := Fr.ofBelow S hB.bel
  obtain ⟨lv, pf, hv⟩ := hA
  have hA : Pb W A S b := ⟨lv, pf, hv⟩
  have c2 : W.cell? ⟨A, 2, none⟩ = some (.int .i64 b.role) := hv.cell 2
  have m1 : W.cell? ⟨w.heap.size, 1, none⟩ = some (.int .i64 m.fr) := cell_blk hB.blk 1
  have hfo := follow_any hA m.fr
  have HB := Lib.hid hB
  have hI := ok.inv
  have ho := ok.out
  obtain ⟨l1, b0, b1⟩ := h.len
  have hll : b.last ≤ 4398047411104 ∧ 0 ≤ b.last := by unfold Bs.last; omega
  have hcl := hI.cl
  have hbc := hI.bc
  clear hv hB hA h
  go_enter Try.func76, Try.ntmps76
  go_upto_region 1 with fail
  rw [← HW.out]
  go_wp2_with fail
  refine hfo.mono ?_
  rintro e1 w1 ⟨rfl, p1, f1⟩
  clear hfo m1 c2
  have hmb := HB.out.stay hlt f1
  have hf1 : Fr w w1 S := hfw.trans f1
  have hE1 := hE.stays (S' := S) hf1 (fun _ q => .inl q)
  have k1 : w1.cell? ⟨w.heap.size, 1, none⟩ = some (.int .i64 m.fr) := cell_blk hmb 1
  have k4 : w1.cell? ⟨w.heap.size, 4, none⟩ = some (.int .i64 m.index) := cell_blk hmb 4
  have k5 : w1.cell? ⟨w.heap.size, 5, none⟩ = some (.int .i64 m.prev) := cell_blk hmb 5
  have k6 : w1.cell? ⟨w.heap.size, 6, none⟩ = some (.int .i64 m.commit) := cell_blk hmb 6
  have k8 : w1.cell? ⟨w.heap.size, 8, none⟩ = some (.slice mad m.list.length mcap) := cell_blk hmb 8
  obtain ⟨X, hX⟩ : ∃ X, ({ b with role := 0, lead := m.fr } : Bs) = X := ⟨_, rfl⟩
  rw [hX] at p1
  have hXb : X.base = b.base ∧ X.commit = b.commit ∧ X.log = b.log ∧ X.last = b.last ∧ X.id = b.id ∧ X.term = b.term := by rw [← hX]; exact ⟨rfl, rfl, rfl, rfl, rfl, rfl⟩
  have hXt : ∀ i, X.termAt i = b.termAt i := by intro i; rw [← hX]; rfl
  have hmk : ∀ q, mk b q = mk X q := by intro q; unfold mk; rw [hXb.2.2.2.2.1, hXb.2.2.2.2.2]
  obtain ⟨lv1, pf1, hv1⟩ := p1
  have p1 : Pb w1 A S X := ⟨lv1, pf1, hv1⟩
  have c6 : w1.cell? ⟨A, 6, none⟩ = some (.int .i64 b.commit) := by rw [← hXb.2.1]; exact hv1.cell 6
  have c5 : w1.cell? ⟨A, 5, none⟩ = some (.int .i64 b.last) := by rw [← hXb.2.2.2.1]; exact hv1.cell 5
  obtain ⟨n, hn⟩ : ∃ n, m.list.length = n := ⟨_, rfl⟩
  obtain ⟨en, hen⟩ : ∃ en, m.index + (n : Int) = en := ⟨_, rfl⟩
  have w1e : IntKind.i64.wrap (m.index + (n : Int)) = en := by rw [IntKind.wrap_i64]; omega
  have w1e' : wrap64 (m.index + (n : Int)) = en := (IntWalk.wrap64_in _ ⟨by omega, by omega⟩).trans hen
  have hcalls : ∀ V tt i good Y, Pb V A S Y → Fr w V S → Y.id = b.id → Y.term = b.term → (b.entries m).sent = (Y, [mk b { ms0 with kind := 4, «to» := tt, good := good, index := i }]) → Calls Try.prog 73 #[.pointer (some ⟨A, 0, none⟩), .int .i64 tt, .bool good, .int .i64 i] V fun e w' => ∃ ov, e = .returned ov ∧ Po w w' A S (b.entries m).sent.1 (b.entries m).sent.2 ov := by
    intro V tt i good Y q1 q2 q3 q4 q5
    refine (fed_po q1 tt i good).mono ?_
    rintro e w' ⟨ov, rfl, q⟩
    rw [q5]
    refine ⟨ov, rfl, Po.step q2 ?_⟩
    have : mk b { ms0 with kind := 4, «to» := tt, good := good, index := i } = mk Y { ms0 with kind := 4, «to» := tt, good := good, index := i } := by unfold mk; rw [q3, q4]
    rw [this]
    exact q
  have h1n : ¬ m.index + m.list.length ≤ b.commit := by have := HN1.out; omega
  have hc1 : ¬ (b.commit ≤ m.index ∧ b.termAt m.index ≠ m.prev) := by
    have := HC1.out
    first
    | exact this
    | exact fun q => q.2 (this q.1)
  have hc0 : ¬ en ≤ b.commit := by rw [← hen, ← hn]; exact h1n
  have heq := entries_end b m ho hr h1n hc1 hX
  rw [hn, hen] at heq
  obtain ⟨st, hst⟩ : ∃ st, max m.index b.commit = st := ⟨_, rfl⟩
  have hstl : st ≤ b.last := by
    by_cases q : b.commit ≤ m.index
    · have ht : b.termAt m.index = m.prev := Classical.byContradiction fun z => hc1 ⟨q, z⟩
      by_cases z : m.index ≤ b.last
      · omega
      · rw [Bs.termAt_none (.inr (by omega))] at ht
        omega
    · omega
  obtain ⟨j, hj⟩ : ∃ j : Nat, st - m.index = j := ⟨(st - m.index).toNat, by omega⟩
  have hjn : j ≤ n ∧ (0 < n → j < n) ∧ (n = 0 → j = 0) := by omega
  obtain ⟨Y, hY⟩ : ∃ Y, X.lay (m.index + 1) m.list = Y := ⟨_, rfl⟩
  rw [hY] at heq
  have hYe : X.lay (st + 1) (m.list.drop j) = Y := by
    rw [← hY]
    by_cases z : j = 0
    · rw [z, List.drop_zero, show st = m.index by omega]
    · rw [lay_skip X j (m.index + 1) m.list (by omega) (by rw [hXb.2.1]; omega)]
      congr 1
      omega
  have hYs := lay_same X m.list (m.index + 1)
  rw [hY, hXb.2.1, hXb.2.2.2.2.1, hXb.2.2.2.2.2] at hYs
  have hAd : ∀ n' ad' cap', Es w1 S (m.list.drop j) (.slice ad' (n - j) cap') → Calls Try.prog 84 #[.pointer (some ⟨A, 0, none⟩), .int .i64 st, .slice ad' (n - j) cap'] (w1.drewN n') fun e w' => e = .returned (.tuple #[]) ∧ w'.cell? ⟨A, 6, none⟩ = some (.int .i64 b.commit) ∧ w'.frozen? ⟨A, 6, none⟩ = false ∧ w'.cell? ⟨w.heap.size, 1, none⟩ = some (.int .i64 m.fr) ∧ w'.cell? ⟨w.heap.size, 6, none⟩ = some (.int .i64 m.commit) ∧ Hid (Pt w w' A S Y) := by
    intro n' ad' cap' hEs
    have hld : (m.list.drop j).length = n - j := by rw [List.length_drop, hn]
    rw [← hld] at hEs ⊢
    have hb' : Below w1.heap.size w1 (w1.drewN n') := below_draw (Below.refl _ _) n'
    refine (adopt_p (p1.drewN n') (hEs.on hb') (st := st) (by rw [hXb.1, hXb.2.1]; exact hbc) (by rw [hXb.2.1]; omega) (by rw [hXb.2.2.2.1]; exact hstl) (by rw [hXb.2.2.1]; omega)).mono ?_
    rintro e w' ⟨rfl, hT⟩
    rw [hYe] at hT
    obtain ⟨S1, t1, t2, t3⟩ := hT
    have hm' := (t3.block _ (blk_lt (show (w1.drewN n').heap[w.heap.size]? = _ from hmb)) (fun q => by have := hlt _ q; omega)).trans hmb
    obtain ⟨lv2, pf2, hv2⟩ := t1
    exact ⟨rfl, by rw [← hYs.1]; exact hv2.cell 6, frozen_blk hv2.ob 6, cell_blk hm' 1, cell_blk hm' 6, Pt.step (hf1.drewN n') ⟨S1, ⟨lv2, pf2, hv2⟩, t2, t3⟩⟩
  obtain ⟨mx, hmx⟩ : ∃ mx, max b.commit (min m.commit en) = mx := ⟨_, rfl⟩
  have hfin : ∀ V n', Pt w V A S Y → Calls Try.prog 73 #[.pointer (some ⟨A, 0, none⟩), .int .i64 m.fr, .bool true, .int .i64 en] ((V.drewN n').setCell ⟨A, 6, none⟩ (.int .i64 mx)) fun e w' => ∃ ov, e = .returned ov ∧ Po w w' A S (b.entries m).sent.1 (b.entries m).sent.2 ov := by
    intro V n' hT
    obtain ⟨S1, t1, t2, t3⟩ := hT
    obtain ⟨r1, r2⟩ := (t1.drewN n').reach (min m.commit en)
    rw [hYs.1, hmx] at r1 r2
    have hrs := reach_same Y (min m.commit en)
    refine (fed_po r1 m.fr en true).mono ?_
    rintro e w' ⟨ov, rfl, q⟩
    rw [heq]
    refine ⟨ov, rfl, ?_⟩
    have : mk b { ms0 with kind := 4, «to» := m.fr, good := true, index := en } = mk (Y.reach (min m.commit en)) { ms0 with kind := 4, «to» := m.fr, good := true, index := en } := by
      unfold mk
      rw [hrs.1, hrs.2.1, hYs.2.1, hYs.2.2.1]
    rw [this]
    exact Po.comb t2 t3 (Po.step ⟨r2.os, r2.tape, r2.output, r2.size, r2.block⟩ q)
  have hEj : (0 < n ∧ ∃ bk o, mad = some ⟨bk, o, none⟩ ∧ n ≤ mcap ∧ Es w1 S (m.list.drop j) (.slice (some ⟨bk, o + j * 4, none⟩) (n - j) (mcap - j))) ∨ (n = 0 ∧ j = 0 ∧ (mad = none → mcap = 0) ∧ m.list = [] ∧ mcap ≤ maxLen) := by
    rcases Nat.eq_zero_or_pos n with z | z
    · obtain ⟨_, _, e, q0, _, q2, _⟩ := hE1
      cases e
      exact .inr ⟨z, hjn.2.2 z, q0, List.eq_nil_of_length_eq_zero (by omega), q2⟩
    · obtain ⟨_, _, e, q0, q1, q2, q3⟩ := hE1
      cases e
      obtain ⟨bk, o, rfl, _⟩ := q3 0 (by omega)
      have hE2 : Es w1 S m.list (.slice (some ⟨bk, o, none⟩) m.list.length mcap) := ⟨_, _, rfl, q0, q1, q2, q3⟩
      have := hE2.dropped (k := j) (by omega)
      rw [hn] at this q1
      exact .inl ⟨z, bk, o, rfl, q1, this⟩
  have wj : IntKind.i64.wrap (st - m.index) = (j : Int) := by rw [IntKind.wrap_i64]; omega
  have wj' : wrap64 (st - m.index) = (j : Int) := (IntWalk.wrap64_in _ ⟨by omega, by omega⟩).trans hj
  have hhas : b.commit ≤ m.index → ∀ n, Calls Try.prog 83 #[.pointer (some ⟨A, 0, none⟩), .int .i64 m.index, .int .i64 m.prev] (w1.drewN n) fun e w' => e = .returned (.bool true) ∧ ∃ k, w' = (w1.drewN n).drewN k := fun hc n => by
    have := has_any (p1.drewN n) m.index m.prev
    have ht : b.termAt m.index = m.prev := Classical.byContradiction fun z => hc1 ⟨hc, z⟩
    rwa [decide_eq_true ⟨by rw [hXb.1]; omega, by rw [hXb.2.2.2.1]; omega, (hXt _).trans ht⟩] at this
  rw [hn] at k8
  have HST := Lib.hid hst
  have HMX := Lib.hid hmx
  have HAD := Lib.hid hAd
  have HFI := Lib.hid hfin
  have HJN := Lib.hid hjn
  have HEJ := Lib.hid hEj
  have HHAS := Lib.hid hhas
  have nn : j ≤ n := hjn.1
  have j0 : (0 : Int) ≤ j := by omega
  clear hv1 hcalls heq hX hmb hf1 f1 hXb hXt hmk hn hen p1 hE hE1 hI ok hc1 h1n hst hmx hAd hfin hjn hEj hhas hYe hYs hY hj hstl
  go_wp2
  go_cut [51] (fun v wx => v = .bool false ∧ ∃ n, wx = w1.drewN n)
  case first =>
    by_cases q : b.commit ≤ m.index
    · have hd : decide (b.commit ≤ m.index) = true := decide_eq_true q
      have hh := HHAS.out q
      go_quiet ((go_at_call 83; exact Calls.quiet_of (hh _)))
      go_wp2_with fail
      go_meet
      exact ⟨rfl, _, rfl⟩
    · have hd : decide (b.commit ≤ m.index) = false := decide_eq_false q
      go_quiet (fail)
      go_wp2_with fail
      go_meet
      exact ⟨rfl, _, rfl⟩
  case rest =>
    obtain ⟨rfl, n', rfl⟩ := hcut
    go_wp2
    go_cut [6] (fun v wx => v = .int .i64 st ∧ ∃ n, wx = w1.drewN n)
    case first =>
      by_cases q : b.commit ≤ m.index
      · have est : st = m.index := by have := HST.out; omega
        have HES := Lib.hid est
        clear est
        go_region
        go_wp2_with fail
        go_meet
        exact ⟨by rw [HES.out], n' + 1, rfl⟩
      · have est : st = b.commit := by have := HST.out; omega
        have HES := Lib.hid est
        clear est
        go_region
        go_wp2_with fail
        go_meet
        exact ⟨by rw [HES.out], n' + 1, rfl⟩
    case rest =>
      obtain ⟨rfl, n2, rfl⟩ := hcut
      rcases HEJ.out with ⟨z, bk, o, rfl, zc, zE⟩ | ⟨rfl, rfl, zc, zl, zm⟩
      · have HX := HAD.out n2 _ _ zE
        have jn2 := HJN.out.2.1 z
        have jc : ¬ mcap = j := by omega
        have jc2 : j ≤ mcap := by omega
        have jc3 : (j : Int) ≤ mcap := by omega
        have jn3 : (j : Int) ≤ n := by omega
        clear zE
        go_wp2_with fail
        refine HX.mono ?_
        rintro e3 w3 ⟨rfl, d6, g6, d1, d66, HT⟩
        clear HX
        go_wp2
        go_cut [] (fun wx => ∃ n, wx = (w3.drewN n).setCell ⟨A, 6, none⟩ (.int .i64 mx))
        case first =>
          by_cases q1 : en < m.commit
          · by_cases q2 : en ≤ b.commit
            · exact absurd q2 (by omega)
            · have ex : mx = en := by have := HMX.out; omega
              have HEX := Lib.hid ex
              clear ex
              go_region
              go_wp2_with fail
              go_meet
              exact ⟨1, by rw [HEX.out]; rfl⟩
          · by_cases q2 : m.commit ≤ b.commit
            · have ex : mx = b.commit := by have := HMX.out; omega
              have HEX := Lib.hid ex
              clear ex
              go_region
              go_wp2_with fail
              go_meet
              exact ⟨1, by rw [HEX.out]; rfl⟩
            · have ex : mx = m.commit := by have := HMX.out; omega
              have HEX := Lib.hid ex
              clear ex
              go_region
              go_wp2_with fail
              go_meet
              exact ⟨1, by rw [HEX.out]; rfl⟩
        case rest =>
          obtain ⟨n3, rfl⟩ := hcut
          have hcall := HFI.out w3 n3 HT.out
          go_wp2_with fail
          refine hcall.mono ?_
          rintro e' w' ⟨ov, rfl, q⟩
          have HQ := Lib.hid q
          clear q hcall
          go_wp2
          go_ret
          exact ⟨ov, rfl, HQ.out⟩
      · have zE : ∀ ad' cap', (ad' = none → cap' = 0) → cap' ≤ maxLen → Es w1 S (m.list.drop 0) (.slice ad' (0 - 0) cap') := by
          intro ad' cap' y1 y2
          rw [zl]
          exact ⟨ad', cap', rfl, y1, Nat.zero_le _, y2, fun i hi => by simp at hi⟩
        cases mad with
        | none =>
          have ez : mcap = 0 := zc rfl
          subst ez
          have HX := HAD.out n2 none 0 (zE none 0 (fun _ => rfl) (Nat.zero_le _))
          clear zE zc zl
          go_wp2_with fail
          refine HX.mono ?_
          rintro e3 w3 ⟨rfl, d6, g6, d1, d66, HT⟩
          clear HX
          go_wp2
          go_cut [] (fun wx => ∃ n, wx = (w3.drewN n).setCell ⟨A, 6, none⟩ (.int .i64 mx))
          case first =>
            by_cases q1 : en < m.commit
            · by_cases q2 : en ≤ b.commit
              · exact absurd q2 (by omega)
              · have ex : mx = en := by have := HMX.out; omega
                have HEX := Lib.hid ex
                clear ex
                go_region
                go_wp2_with fail
                go_meet
                exact ⟨1, by rw [HEX.out]; rfl⟩
            · by_cases q2 : m.commit ≤ b.commit
              · have ex : mx = b.commit := by have := HMX.out; omega
                have HEX := Lib.hid ex
                clear ex
                go_region
                go_wp2_with fail
                go_meet
                exact ⟨1, by rw [HEX.out]; rfl⟩
              · have ex : mx = m.commit := by have := HMX.out; omega
                have HEX := Lib.hid ex
                clear ex
                go_region
                go_wp2_with fail
                go_meet
                exact ⟨1, by rw [HEX.out]; rfl⟩
          case rest =>
            obtain ⟨n3, rfl⟩ := hcut
            have hcall := HFI.out w3 n3 HT.out
            go_wp2_with fail
            refine hcall.mono ?_
            rintro e' w' ⟨ov, rfl, q⟩
            have HQ := Lib.hid q
            clear q hcall
            go_wp2
            go_ret
            exact ⟨ov, rfl, HQ.out⟩
        | some a =>
          have HX := HAD.out n2 (some a) mcap (zE (some a) mcap (fun q => by cases q) zm)
          clear zE zc zl
          go_wp2_with fail
          refine HX.mono ?_
          rintro e3 w3 ⟨rfl, d6, g6, d1, d66, HT⟩
          clear HX
          go_wp2
          go_cut [] (fun wx => ∃ n, wx = (w3.drewN n).setCell ⟨A, 6, none⟩ (.int .i64 mx))
          case first =>
            by_cases q1 : en < m.commit
            · by_cases q2 : en ≤ b.commit
              · exact absurd q2 (by omega)
              · have ex : mx = en := by have := HMX.out; omega
                have HEX := Lib.hid ex
                clear ex
                go_region
                go_wp2_with fail
                go_meet
                exact ⟨1, by rw [HEX.out]; rfl⟩
            · by_cases q2 : m.commit ≤ b.commit
              · have ex : mx = b.commit := by have := HMX.out; omega
                have HEX := Lib.hid ex
                clear ex
                go_region
                go_wp2_with fail
                go_meet
                exact ⟨1, by rw [HEX.out]; rfl⟩
              · have ex : mx = m.commit := by have := HMX.out; omega
                have HEX := Lib.hid ex
                clear ex
                go_region
                go_wp2_with fail
                go_meet
                exact ⟨1, by rw [HEX.out]; rfl⟩
          case rest =>
            obtain ⟨n3, rfl⟩ := hcut
            have hcall := HFI.out w3 n3 HT.out
            go_wp2_with fail
            refine hcall.mono ?_
            rintro e' w' ⟨ov, rfl, q⟩
            have HQ := Lib.hid q
            clear q hcall
            go_wp2
            go_ret
            exact ⟨ov, rfl, HQ.out⟩
end
end Go.Proofs.Ytmiagjcihmenfaa
