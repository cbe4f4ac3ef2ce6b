/- The walk of DriveAgain. -/
import Derived.Test.YtphpadgmhanabaaLg
namespace Go.Proofs.Ytphpadgmhanabaa
open Go.RowKit Go.Maps

set_option maxHeartbeats 8000000 in
set_option maxRecDepth 100000 in
theorem again_law {L : List O} {ad : Option Addr} {cap : Nat} {w : World} {kv mv : Value} {keep more : List Int} (hL : Li L ad w) (hF : Fits L) (hK : Ints w kv keep) (hM : Ints w mv more) (hzK : keep.length * 8 ≤ 140737488355328) (hzM : more.length * 8 ≤ 140737488355328) :
    Calls Try.prog 6 #[.slice ad L.length cap, kv, mv] w fun e w' => e = .returned (.bool true) ∧ Below w.heap.size w w' := by
  have hlen := hF.len
  by_cases h100 : 100 < L.length
  · have q1 : (100 : Int) < L.length := by omega
    go_enter Try.func6, Try.ntmps6
    go_wp2_with fail
    refine (awake_any w).mono ?_
    rintro e w1 ⟨rfl, hb1⟩
    go_wp2_with fail
    refine (awake_any w1).mono ?_
    rintro e w2 ⟨rfl, hb2⟩
    go_wp2
    go_ret
    exact ⟨rfl, hb1.trans (hb2.mono hb1.size)⟩
  · have q1 : (L.length : Int) ≤ 100 := by omega
    go_enter Try.func6, Try.ntmps6
    go_wp2_with fail
    refine (awake_any w).mono ?_
    rintro e w1 ⟨rfl, hb1⟩
    have hL1 : Li L ad w1 := ⟨fun i hi => by
      obtain ⟨b, o, ha, hl, c⟩ := hL.at_on hb1 i hi
      exact ⟨b, o, ha, Nat.lt_of_lt_of_le hl hb1.size, c⟩, fun i hi => (hL.ints i hi).on hb1⟩
    go_wp2_with fail
    refine (bytes_any hL1 hF).mono ?_
    rintro e w2 ⟨r, rfl, hb2, hU⟩
    have hb12 := hb1.trans (hb2.mono hb1.size)
    by_cases hr : 16384 < r
    · have q2 : (16384 : Int) < r := by omega
      clear hU hL1
      go_wp2_with fail
      refine (awake_any w2).mono ?_
      rintro e w3 ⟨rfl, hb3⟩
      go_wp2
      go_ret
      exact ⟨rfl, hb12.trans (hb3.mono hb12.size)⟩
    · have q2 : (r : Int) ≤ 16384 := by omega
      have HU := Lib.hid (hU (by omega))
      clear hU hL1
      go_wp2_with fail
      refine (new_any w2).mono ?_
      rintro e w3 ⟨rfl, hd3, hb3, hz3⟩
      have h4 := two_start hb12 hd3 hb3
      clear hz3 hd3
      go_wp2
      go_loopw [7, 8, 9, 41] (fun a b _ i wr => ∃ k A B : Nat, k ≤ L.length ∧ i = .int .i64 k ∧ a = .pointer (some ⟨A, 0, none⟩) ∧ b = .pointer (some ⟨B, 0, none⟩) ∧ Two w wr A B k (k * 65536)) (fun _ _ _ i _ => L.length - (intOf i).toNat)
      case atStart => exact ⟨0, _, _, Nat.zero_le _, rfl, rfl, rfl, h4⟩
      case round =>
        obtain ⟨k, A, B, hk, rfl, rfl, rfl, ht⟩ := hrel
        by_cases hlt : k < L.length
        · obtain ⟨b, o, rfl, hbl, c0, c1, c2, c3, c4⟩ := hL.at_on ht.old k hlt
          have hmem : L[k] ∈ L := List.getElem_mem hlt
          obtain ⟨u1, u2, u3⟩ := HU.out k hlt
          have hki := hL.ints k hlt
          have hni := hF.n _ hmem
          obtain ⟨x, hx⟩ : ∃ x, L[k] = x := ⟨_, rfl⟩
          rw [hx] at c0 c1 c2 c3 c4 u1 u2 u3 hki hni
          obtain ⟨W, hW⟩ : ∃ W, W = wr.alloc (opO x.kind x.name x.data x.n (.slice x.kad x.keep.length x.kc)) := ⟨_, rfl⟩
          have htW : Two w W A B k (k * 65536) := by rw [hW]; exact ht.on ((Below.refl _ wr).alloc (Nat.le_refl _) _)
          have hdone := done_all htW u1 u2 u3 hni hki (by omega) (by omega)
          have k0 : (0 : Int) ≤ k := by omega
          have k1 : (k : Int) < L.length := by omega
          have HW := Lib.hid hW
          clear hx hmem hki hni u1 u2 u3 hW
          go_wp2_with fail
          rw [← HW.out]
          refine hdone.mono ?_
          rintro e w5 ⟨A', B', rfl, h5⟩
          clear hdone
          go_wp2
          go_roundw
          case rel => exact ⟨k + 1, A', B', by omega, by go_num, rfl, rfl, by rw [show (k + 1) * 65536 = k * 65536 + 65536 by omega]; exact h5⟩
          case measure => simp [intOf]; omega
        · have e : k = L.length := by omega
          have k1 : ¬ ((k : Int) < L.length) := by omega
          obtain ⟨S, T, F, left, rl, down, htw⟩ := ht
          have o5 := htw.own
          clear htw
          obtain ⟨cv, w6, hrun6, hI6, hb6⟩ := copy_run (hK.on o5.below) hzK
          have hc6 := own_crash (o5.on hb6) hI6
          have hsafe := o5.facts.2.1
          go_wp2_with (at_builtin; refine wpl_run _ _ rfl hrun6 ?_)
          refine hc6.mono ?_
          rintro e w7 ⟨A1, rfl, o7, _⟩
          obtain ⟨F1, hF1⟩ : ∃ F1, crashF F keep = F1 := ⟨_, rfl⟩
          have htwice := crash_twice hsafe keep more
          rw [hF1] at o7 htwice
          obtain ⟨hr1, _, hnm1, hl1, hf1⟩ := o7.facts
          have HT := Lib.hid htwice
          clear hF1 htwice hsafe hc6 hI6 o5 k1
          go_wp2_with fail
          refine (own_names o7).mono ?_
          rintro e w8 ⟨nv, rfl, hrow8, hb8⟩
          have o8 := o7.on hb8
          obtain ⟨nad, ncap, rfl, hnad⟩ := row_shape hrow8
          obtain ⟨Q, hQ⟩ : ∃ Q, F1.length = Q := ⟨_, rfl⟩
          have HQ := Lib.hid hQ
          have l1 : (Q : Int) ≤ 900000 := by omega
          rw [hQ] at hrow8 hnad ⊢
          clear hQ
          go_wp2
          go_loopw [13, 64] (fun wv i wr => ∃ k : Nat, k ≤ Q ∧ i = .int .i64 k ∧ wr.ownsRow w8.heap.size 9 1 wv (2 * k) (wantL (F1.take k)) ∧ Below w8.heap.size w8 wr) (fun _ i _ => Q - (intOf i).toNat)
          case atStart => exact ⟨0, Nat.zero_le _, rfl, World.ownsRow_nil _ _ _ _, Below.refl _ _⟩
          case round =>
            obtain ⟨k2, hk2, rfl, hwant, hbr⟩ := hrel
            have o9 := o8.on hbr
            by_cases hlt2 : k2 < Q
            · have hkF : k2 < F1.length := by rw [HQ.out]; exact hlt2
              obtain ⟨g, rfl⟩ := hnad k2 hlt2
              have hgl := (hrow8.lt g rfl).2
              have hcn : wr.cell? ⟨g, k2, none⟩ = some (.string F1[k2].name) := by
                rw [hbr.cell (p := ⟨g, k2, none⟩) hgl, hrow8.cellAt k2 (by omega)]
                simp [hkF]
              have hrd := own_read o9 (hnm1 F1[k2] (List.getElem_mem hkF))
              rw [old_at hr1 k2 hkF] at hrd
              have hstep := want_step F1 k2 hkF
              obtain ⟨nm, hnm⟩ : ∃ nm, F1[k2].name = nm := ⟨_, rfl⟩
              obtain ⟨dt, hdt⟩ : ∃ dt, F1[k2].data = dt := ⟨_, rfl⟩
              rw [hnm, hdt] at hrd hstep
              rw [hnm] at hcn
              obtain ⟨ad', cap', w10, hrun10, ho10, hb10⟩ := want_run hwant hbr.size (by omega) nm dt
              rw [← hstep] at ho10
              have hb11 := hb10 w8 hbr (Nat.le_refl _)
              have k0 : (0 : Int) ≤ k2 := by omega
              have k1 : (k2 : Int) < Q := by omega
              clear hnm hdt hstep hb10
              go_wp2_with fail
              refine hrd.mono ?_
              rintro e w9 ⟨rfl, rfl⟩
              clear hrd
              go_wp2_with (at_builtin; refine wpl_run _ _ rfl hrun10 ?_; refine Hid.out ?_)
              refine Lib.hid ?_
              go_wp2
              go_roundw
              case rel => exact ⟨k2 + 1, by omega, by go_num, by rw [show 2 * (k2 + 1) = 2 * k2 + 2 by omega]; exact ho10, hb11⟩
              case measure => simp [intOf]; omega
            · have e : k2 = Q := by omega
              subst e
              have k1 : ¬ ((k2 : Int) < k2) := by omega
              rw [List.take_of_length_le (by rw [HQ.out]; exact Nat.le_refl _)] at hwant
              obtain ⟨wad, wcap, rfl, hwad⟩ := row_shape hwant
              obtain ⟨cv2, w11, hrun11, hI11, hb11⟩ := copy_run (hM.on o9.below) hzM
              have hw11 : w11.ownsRow w8.heap.size 9 1 (.slice wad (2 * k2) wcap) (2 * k2) (wantL F1) := own_like hwant (fun j hj => hb11.block j (hwant.lt j hj).2)
              have hc11 := own_crash2 (o9.on hb11) hI11
              rw [HT.out] at hc11
              clear hI11 hrow8 hnad
              go_wp2_with (at_builtin; refine wpl_run _ _ rfl hrun11 ?_)
              refine hc11.mono ?_
              rintro e w12 ⟨A2, rfl, o12, hkeep⟩
              have hw12 := hkeep _ _ _ _ hw11
              clear hkeep hc11 hrun11 hw11
              go_wp2_with fail
              refine (own_names o12).mono ?_
              rintro e w13 ⟨nv2, rfl, hrow13, hb13⟩
              have o13 := o12.on hb13
              have hw13 : w13.ownsRow w8.heap.size 9 1 (.slice wad (2 * k2) wcap) (2 * k2) (wantL F1) := own_like hw12 (fun j hj => hb13.block j (hw12.lt j hj).2)
              obtain ⟨nad2, ncap2, rfl, hnad2⟩ := row_shape hrow13
              rw [HQ.out] at hrow13 hnad2 ⊢
              go_wp2
              go_loopw [88] (fun i wr => ∃ j : Nat, j ≤ k2 ∧ i = .int .i64 j ∧ Below w13.heap.size w13 wr) (fun i _ => k2 - (intOf i).toNat)
              case atStart => exact ⟨0, Nat.zero_le _, rfl, Below.refl _ _⟩
              case round =>
                obtain ⟨j, hj, rfl, hbj⟩ := hrel
                have o14 := o13.on hbj
                have hw14 : wr.ownsRow w8.heap.size 9 1 (.slice wad (2 * k2) wcap) (2 * k2) (wantL F1) := own_like hw13 (fun i hi => hbj.block i (hw13.lt i hi).2)
                by_cases hlt3 : j < k2
                · have hkF : j < F1.length := by rw [HQ.out]; exact hlt3
                  obtain ⟨g, rfl⟩ := hnad2 j hlt3
                  obtain ⟨g2, rfl⟩ := hwad j (by omega)
                  have hgl := (hrow13.lt g rfl).2
                  have hcn : wr.cell? ⟨g, j, none⟩ = some (.string F1[j].name) := by
                    rw [hbj.cell (p := ⟨g, j, none⟩) hgl, hrow13.cellAt j (by omega)]
                    simp [hkF]
                  have hrd := own_read o14 (hnm1 F1[j] (List.getElem_mem hkF))
                  rw [old_at hr1 j hkF] at hrd
                  obtain ⟨y0, y1⟩ := want_get F1 j hkF
                  have z0 : wr.cell? ⟨g2, 2 * j, none⟩ = some (.string F1[j].name) := by rw [hw14.cellAt (2 * j) (by omega)]; exact y0
                  have z1 : wr.cell? ⟨g2, 2 * j + 1, none⟩ = some (.string F1[j].data) := by rw [hw14.cellAt (2 * j + 1) (by omega)]; exact y1
                  obtain ⟨nm, hnm⟩ : ∃ nm, F1[j].name = nm := ⟨_, rfl⟩
                  obtain ⟨dt, hdt⟩ : ∃ dt, F1[j].data = dt := ⟨_, rfl⟩
                  rw [hnm, hdt] at hrd
                  rw [hnm] at hcn z0
                  rw [hdt] at z1
                  have e1 := str_ne nm
                  have e2 := str_ne dt
                  have j0 : (0 : Int) ≤ j := by omega
                  have j1 : (j : Int) < k2 := by omega
                  have j2 : (0 : Int) ≤ 2 * j := by omega
                  have j3 : (2 * j + 1 : Int) < 2 * k2 := by omega
                  have j4 : ((2 : Int) * j).toNat = 2 * j := by omega
                  have j5 : ((2 : Int) * j + 1).toNat = 2 * j + 1 := by omega
                  clear hnm hdt y0 y1
                  go_wp2_with fail
                  refine hrd.mono ?_
                  rintro e w15 ⟨rfl, rfl⟩
                  clear hrd
                  go_wp2
                  go_roundw
                  case rel => exact ⟨j + 1, by omega, by go_num, hbj⟩
                  case measure => simp [intOf]; omega
                · have e : j = k2 := by omega
                  subst e
                  have j1 : ¬ ((j : Int) < j) := by omega
                  go_wp2_with fail
                  refine (own_names o14).mono ?_
                  rintro e w16 ⟨nv3, rfl, hrow16, hb16⟩
                  obtain ⟨nad3, ncap3, rfl, _⟩ := row_shape hrow16
                  rw [HQ.out]
                  have e3 : ((2 : Int) * j == 2 * j) = true := by simp
                  go_wp2
                  go_ret
                  exact ⟨rfl, (o14.on hb16).below⟩
end Go.Proofs.Ytphpadgmhanabaa
