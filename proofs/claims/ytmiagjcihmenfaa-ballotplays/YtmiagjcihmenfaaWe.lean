/- The walk of the document's given. -/
import Derived.Test.YtmiagjcihmenfaaWb
import Derived.Test.YtmiagjcihmenfaaZp
namespace Go.Proofs.Ytmiagjcihmenfaa
open Go.RowKit

section
variable {w w' W V : World} {A : Nat} {S T : Nat → Prop} {b c : Bs}
/-- append(rest, log[p:]...) -/
theorem ens_rest {L : List En} {ad : Option Addr} {cap p : Nat} (hL : Es V S L (.slice ad L.length cap)) (hp : p ≤ L.length) (hz : L.length ≤ 900000) (hlt : ∀ k, S k → k < V.heap.size) : ∃ ad' cap', (∀ X : World, (Instr.sliceAt 32 (.slice ad L.length cap) (some (.int .i64 (p : Int))) none none).run Try.prog X = .ok (.slice ad' (L.drop p).length cap') X) ∧
    ∀ X : World, Below V.heap.size V X → ∃ ad2 cap2 X', (Builtin.append_ #[32, 32] 32 #[.slice none 0 0, .slice ad' (L.drop p).length cap']).run Try.prog X = .ok (.slice ad2 (L.drop p).length cap2) X' ∧ Below X.heap.size X X' ∧ Es X' S (L.drop p) (.slice ad2 (L.drop p).length cap2) := by
  obtain ⟨ad', cap', h1, h2⟩ := drop_slice hL hp
  refine ⟨ad', cap', h1, fun X hX => ?_⟩
  obtain ⟨ad0, cap0, h3, h4⟩ := drop_slice (hL.on hX) hp
  have e1 := (h1 X).symm.trans (h3 X)
  simp only [Result.ok.injEq, Value.slice.injEq, and_true, true_and] at e1
  obtain ⟨rfl, rfl⟩ := e1
  obtain ⟨v', w', hrun, ho, hg, hat⟩ := ens_run (w := X) (v := .slice none 0 0) (base := X.heap.size) (n := 0) (xs := []) (ad := ad') (m := (L.drop p).length) (c := cap') (news := enC (L.drop p)) (World.ownsRow_nil _ _ _ _) (Nat.le_refl _) h4 (enC_one _) (by simp; omega)
  rw [Nat.zero_add, List.nil_append] at ho
  obtain ⟨ad2, cap2, rfl⟩ := own_shape ho
  have hb : Below X.heap.size X w' := ⟨hg.os, hg.tape, hg.output, hg.size, fun k hk => hg.block k hk (by simp [Value.ownBlock])⟩
  exact ⟨ad2, cap2, w', hrun, hb, Es.own ho (fun k hk q => by have := (ho.lt k hk).1; have := hlt k q; have := hX.size; omega)⟩
theorem cell_on {X : World} {a : Addr} {u : Value} (h : Below V.heap.size V X) (y : V.cell? a = some u) : X.cell? a = some u := by
  have hl : a.block < V.heap.size := by
    refine Classical.byContradiction fun q => ?_
    unfold World.cell? at y
    rw [Array.getElem?_eq_none (by omega)] at y
    simp at y
  unfold World.cell? at y ⊢
  rw [h.block _ hl]
  exact y
theorem termAt_in {i p : Int} (h : b.termAt i = p) (hp : 0 ≤ p) : i ≤ b.last := by
  refine Classical.byContradiction fun q => ?_
  have := Bs.termAt_none (b := b) (i := i) (.inr (by omega))
  omega
set_option maxHeartbeats 8000000 in
set_option maxRecDepth 100000 in
theorem given_any (h : Rb w A S b) (m : Ms) (mad : Option Addr) (mcap : Nat) (hf : b.out.length < 900000) (hbc : b.base ≤ b.commit) (hi : m.index ≤ 1099511627776) (hp : 0 ≤ m.prev) : Calls Try.prog 66 #[.pointer (some ⟨A, 0, none⟩), msV m (.slice mad m.list.length mcap)] w fun e w' => e = .returned (.tuple #[]) ∧ Rt w w' A S (b.given m) := by
  obtain ⟨W, hW⟩ : ∃ W, W = w.alloc (.cells (msCs m (.slice mad m.list.length mcap)) 34) := ⟨_, rfl⟩
  obtain ⟨Y, hY⟩ : ∃ Y, w.heap.size = Y := ⟨_, rfl⟩
  have hb : Below w.heap.size w W := by rw [hW]; exact (Below.refl _ w).alloc (Nat.le_refl _) _
  have jY : W.heap[Y]? = some (.cells (msCs m (.slice mad m.list.length mcap)) 34 (0, 0)) := by rw [hW, ← hY]; exact heap_alloc_new w _
  have hA := h.on hb
  have hlt := h.lt
  have hYS : ¬ S Y := fun q => by have := hlt Y q; omega
  have hAlt : A < w.heap.size := by obtain ⟨_, _, _, q⟩ := h; exact q.lt A q.covA
  have hYA : Y ≠ A := by omega
  have hAY : A ≠ Y := by omega
  have HB := Lib.hid hb
  have HW := Lib.hid hW
  have HY := Lib.hid hY
  by_cases hr : b.role = 2
  · have e : b.given m = b := by unfold Bs.given; rw [if_pos hr]
    rw [e]
    obtain ⟨lv, ov, O, hv⟩ := hA
    have c4 : W.cell? ⟨A, 4, none⟩ = some (.int .i64 b.role) := hv.cell 4
    have HH := Lib.hid h
    clear hW hY hb jY hv h e
    go_enter Try.func66, Try.ntmps66
    go_upto_region 1 with fail
    rw [← HW.out, HY.out]
    go_wp2
    refine bodyPost_ret (results_none rfl _ _ _) rfl ?_
    exact ⟨rfl, Rt.same HH.out HB.out⟩
  · have hr' : (b.role == 2) = false := by simpa using hr
    obtain ⟨c, hc⟩ : ∃ c : Bs, c = { b with role := 0, lead := m.fr } := ⟨_, rfl⟩
    obtain ⟨a1, f1⟩ := hA.setf (i := 4) (v := .int .i64 0) (b' := { b with role := 0 }) (fun _ _ => rfl) rfl rfl rfl
    obtain ⟨a2, f2⟩ := a1.setf (i := 5) (v := .int .i64 m.fr) (b' := c) (by subst hc; exact fun _ _ => rfl) (by subst hc; rfl) (by subst hc; rfl) (by subst hc; rfl) (by subst hc; rfl)
    obtain ⟨V0, hV0⟩ : ∃ V0, V0 = (W.setCell ⟨A, 4, none⟩ (.int .i64 0)).setCell ⟨A, 5, none⟩ (.int .i64 m.fr) := ⟨_, rfl⟩
    have f12 := f1.trans f2
    rw [← hV0] at a2 f12
    have j0 := (f12.block Y (blk_lt jY) hYS).trans jY
    have hF0 : Fr w V0 S := (Fr.ofBelow S hb).trans f12
    have HA0 := Lib.hid a2
    have HJ0 := Lib.hid j0
    have HF0 := Lib.hid hF0
    have HV0 := Lib.hid hV0
    obtain ⟨lv, ov, O, hv⟩ := hA
    have c4 : W.cell? ⟨A, 4, none⟩ = some (.int .i64 b.role) := hv.cell 4
    have c5 : W.cell? ⟨A, 5, none⟩ = some (.int .i64 b.lead) := hv.cell 5
    have z4 : W.frozen? ⟨A, 4, none⟩ = false := frozen_blk hv.ob 4
    have z5 : W.frozen? ⟨A, 5, none⟩ = false := frozen_blk hv.ob 5
    have m1 : W.cell? ⟨Y, 1, none⟩ = some (.int .i64 m.fr) := cell_blk jY 1
    obtain ⟨lv0, ov0, O0, hv0⟩ := a2
    have ecm : c.commit = b.commit := by rw [hc]
    have d25 : V0.cell? ⟨A, 25, none⟩ = some (.int .i64 b.commit) := by rw [← ecm]; exact hv0.cell 25
    have y4 : V0.cell? ⟨Y, 4, none⟩ = some (.int .i64 m.index) := cell_blk j0 4
    have hfc : c.out.length < 900000 := by rw [hc]; exact hf
    have HC := Lib.hid hc
    have e : b.given m = (if b.commit < m.index then { c.rebase m.index m.prev m.snap (if b.termAt m.index = m.prev then b.log.drop (m.index - b.base).toNat else []) with commit := m.index } else c).send { ms0 with kind := 4, tgt := m.fr, good := true, index := m.index } := by
      unfold Bs.given
      rw [if_neg hr, hc]
    obtain ⟨G, hG⟩ : ∃ G, b.given m = G := ⟨_, rfl⟩
    rw [hG] at e ⊢
    have HE := Lib.hid e
    obtain ⟨f3, hf3⟩ : ∃ f3, decide (b.commit < m.index) = f3 := ⟨_, rfl⟩
    have HF3 := Lib.hid hf3
    clear hW hY hb jY hv h a1 f1 f2 f12 hV0 j0 hF0 hv0 ecm hc e hf3 hr hG
    go_enter Try.func66, Try.ntmps66
    go_upto_region 1 with fail
    rw [← HW.out, HY.out]
    go_upto_region 4 with fail
    rw [← HV0.out]
    go_cut [24] (fun v wx => v = .bool f3 ∧ ∃ n, wx = V0.drewN n)
    case first =>
      cases f3 with
      | true =>
        have hd := HF3.out
        go_quiet (fail)
        go_wp2_with fail
        go_meet
        exact ⟨by first | rfl | (rw [hd]), _, rfl⟩
      | false =>
        have hd := HF3.out
        go_quiet (fail)
        go_wp2_with fail
        go_meet
        exact ⟨by first | rfl | (rw [hd]), _, rfl⟩
    case rest =>
      obtain ⟨rfl, n1, hwc⟩ := hcut
      have bn : Below V0.heap.size V0 (V0.drewN n1) := below_draw (Below.refl V0.heap.size V0) n1
      have hP1 := HA0.out.on bn
      have j1 := (bn.block Y (blk_lt HJ0.out)).trans HJ0.out
      have hF1 := HF0.out.below bn
      rw [← hwc] at hP1 j1 hF1
      obtain ⟨V1, rfl⟩ : ∃ V1, V1 = wc := ⟨_, rfl⟩
      have x1 : V1.cell? ⟨Y, 1, none⟩ = some (.int .i64 m.fr) := cell_blk j1 1
      have x4 : V1.cell? ⟨Y, 4, none⟩ = some (.int .i64 m.index) := cell_blk j1 4
      have x5 : V1.cell? ⟨Y, 5, none⟩ = some (.int .i64 m.prev) := cell_blk j1 5
      have HP1 := Lib.hid hP1
      have HJ1 := Lib.hid j1
      have HF1 := Lib.hid hF1
      clear hwc bn c4 c5 z4 z5 m1 d25 y4 hP1 j1 hF1
      cases f3 with
      | false =>
        have hcm := of_decide_eq_false HF3.out
        have eG := HE.out
        rw [if_neg hcm] at eG
        have HEG := Lib.hid eG
        have hs : Calls Try.prog 55 #[.pointer (some ⟨A, 0, none⟩), .agg (msCs { ms0 with kind := 4, tgt := m.fr, good := true, index := m.index } (.slice none 0 0))] V1 fun e w' => e = .returned (.tuple #[]) ∧ Rt w w' A S (c.send { ms0 with kind := 4, tgt := m.fr, good := true, index := m.index }) := by
          refine (send_any (m := { ms0 with kind := 4, tgt := m.fr, good := true, index := m.index }) (mv := .slice none 0 0) HP1.out (Es.nil _ _) hfc).mono ?_
          rintro e w' ⟨rfl, q1, q2⟩
          exact ⟨rfl, Rt.step HF1.out (Rt.of q1 q2)⟩
        clear hcm eG
        go_wp2_with fail
        refine hs.mono ?_
        rintro e w' ⟨rfl, q⟩
        have HQ := Lib.hid q
        clear q hs
        go_wp2
        go_end0
        exact ⟨rfl, by rw [HEG.out]; exact HQ.out⟩
      | true =>
        have hcm := of_decide_eq_true HF3.out
        have eG := HE.out
        rw [if_pos hcm] at eG
        have hterm := fun n => term_any (HP1.out.drewN n) m.index
        have ect : c.termAt m.index = b.termAt m.index := by rw [HC.out]; rfl
        obtain ⟨tm, htm⟩ : ∃ tm, b.termAt m.index = tm := ⟨_, rfl⟩
        rw [ect, htm] at hterm
        rw [htm] at eG
        have HEG := Lib.hid eG
        obtain ⟨f4, hf4⟩ : ∃ f4, (tm == m.prev) = f4 := ⟨_, rfl⟩
        have HF4 := Lib.hid hf4
        have HTM := Lib.hid htm
        have HCM := Lib.hid hcm
        -- what is left, once the rest is there
        have hend : ∀ (V3 : World) (R : List En) (v : Value), Below V1.heap.size V1 V3 → Es V3 (Un S c.av) R v → R.length ≤ 900000 → Hid (Calls Try.prog 67 #[.pointer (some ⟨A, 0, none⟩), .int .i64 m.index, .int .i64 m.prev, .string m.snap, v] V3 fun e V4 => e = .returned (.tuple #[]) ∧ V4.cell? ⟨A, 25, none⟩ = some (.int .i64 b.commit) ∧ V4.frozen? ⟨A, 25, none⟩ = false ∧ V4.cell? ⟨Y, 1, none⟩ = some (.int .i64 m.fr) ∧ V4.cell? ⟨Y, 4, none⟩ = some (.int .i64 m.index) ∧ Hid (Calls Try.prog 55 #[.pointer (some ⟨A, 0, none⟩), .agg (msCs { ms0 with kind := 4, tgt := m.fr, good := true, index := m.index } (.slice none 0 0))] (V4.setCell ⟨A, 25, none⟩ (.int .i64 m.index)) fun e w' => e = .returned (.tuple #[]) ∧ Rt w w' A S (({ c.rebase m.index m.prev m.snap R with commit := m.index } : Bs).send { ms0 with kind := 4, tgt := m.fr, good := true, index := m.index }))) := by
          intro V3 R v hbV hE hR
          have hb0 : 0 ≤ m.index := by
            obtain ⟨_, b0, _⟩ := HP1.out.len
            have e1 : c.base = b.base := by rw [HC.out]
            have := HCM.out
            omega
          refine (rebase_any (HP1.out.on hbV) (i := m.index) (tm := m.prev) (snap := m.snap) hE hR hb0 (by omega)).mono ?_
          rintro e V4 ⟨rfl, q1, q2⟩
          obtain ⟨a3, f3⟩ := q1.setf (i := 25) (v := .int .i64 m.index) (b' := { c.rebase m.index m.prev m.snap R with commit := m.index }) (fun _ _ => rfl) rfl rfl rfl
          have j4 := (q2.block Y (Nat.lt_of_lt_of_le (blk_lt HJ1.out) hbV.size) hYS).trans ((hbV.block Y (blk_lt HJ1.out)).trans HJ1.out)
          obtain ⟨lv4, ov4, O4, hv4⟩ := q1
          have ecm : (c.rebase m.index m.prev m.snap R).commit = b.commit := by rw [HC.out]; rfl
          refine ⟨rfl, by rw [← ecm]; exact hv4.cell 25, frozen_blk hv4.ob 25, cell_blk j4 1, cell_blk j4 4, ?_⟩
          refine (send_any (m := { ms0 with kind := 4, tgt := m.fr, good := true, index := m.index }) (mv := .slice none 0 0) a3 (Es.nil _ _) (by show c.out.length < 900000; exact hfc)).mono ?_
          rintro e w' ⟨rfl, r1, r2⟩
          exact ⟨rfl, Rt.step (((HF1.out.below hbV).trans q2).trans f3) (Rt.of r1 r2)⟩
        clear hf4 htm hcm ect eG
        go_wp2_with fail
        go_cut [31] (fun v wx => v = .bool f4 ∧ ∃ n, wx = V1.drewN n)
        case first =>
          cases f4 with
          | true =>
            have hd := HF4.out
            go_quiet ((go_at_call 56; exact Calls.quiet_of (hterm _)))
            go_wp2_with fail
            go_meet
            exact ⟨by first | rfl | (rw [hd]), _, rfl⟩
          | false =>
            have hd := HF4.out
            go_quiet ((go_at_call 56; exact Calls.quiet_of (hterm _)))
            go_wp2_with fail
            go_meet
            exact ⟨by first | rfl | (rw [hd]), _, rfl⟩
        case rest =>
          obtain ⟨rfl, n2, hwc⟩ := hcut
          have bn : Below V1.heap.size V1 (V1.drewN n2) := below_draw (Below.refl V1.heap.size V1) n2
          have hP2 := HP1.out.on bn
          have j2 := (bn.block Y (blk_lt HJ1.out)).trans HJ1.out
          rw [← hwc] at hP2 j2 bn
          obtain ⟨V2, rfl⟩ : ∃ V2, V2 = wc := ⟨_, rfl⟩
          have t1 : V2.cell? ⟨Y, 1, none⟩ = some (.int .i64 m.fr) := cell_blk j2 1
          have t4 : V2.cell? ⟨Y, 4, none⟩ = some (.int .i64 m.index) := cell_blk j2 4
          have t5 : V2.cell? ⟨Y, 5, none⟩ = some (.int .i64 m.prev) := cell_blk j2 5
          have t9 : V2.cell? ⟨Y, 9, none⟩ = some (.string m.snap) := cell_blk j2 9
          have HB2 := Lib.hid bn
          have HJ2 := Lib.hid j2
          have HP2 := Lib.hid hP2
          clear hwc bn hterm x1 x4 x5 j2 hP2
          cases f4 with
          | false =>
            have hd : ¬ tm = m.prev := by simpa using HF4.out
            have eG := HEG.out
            rw [if_neg hd] at eG
            have HEG2 := Lib.hid eG
            clear eG
            have hs := (hend V2 [] (.slice none 0 0) HB2.out (Es.nil _ _) (Nat.zero_le _)).out
            clear hend hd
            go_wp2_with fail
            refine hs.mono ?_
            rintro e V4 ⟨rfl, g1, g2, g3, g4, hs2⟩
            have hs3 := hs2.out
            clear hs hs2 t1 t4 t5 t9
            go_wp2_with fail
            refine hs3.mono ?_
            rintro e w' ⟨rfl, q⟩
            have HQ := Lib.hid q
            clear q hs3
            go_wp2
            go_end0
            exact ⟨rfl, by rw [HEG2.out]; exact HQ.out⟩
          | true =>
            have hd : tm = m.prev := by simpa using HF4.out
            have eG := HEG.out
            rw [if_pos hd] at eG
            obtain ⟨l9, b0, b1⟩ := HP2.out.len
            have ecb : c.base = b.base := by rw [HC.out]
            have ecl : c.log = b.log := by rw [HC.out]
            have hil : m.index ≤ b.last := termAt_in (b := b) (HTM.out.trans hd) hp
            obtain ⟨p, hpn⟩ : ∃ p : Nat, m.index - b.base = p := ⟨(m.index - b.base).toNat, by have := HCM.out; omega⟩
            have hpt : (m.index - b.base).toNat = p := by omega
            have hpl : p ≤ b.log.length := by unfold Bs.last at hil; omega
            rw [hpt] at eG
            have hlt2 := HP2.out.ltU
            have hP2 := HP2.out
            obtain ⟨lv2, ov2, O2, hv2⟩ := hP2
            have hlog2 := hv2.log
            rw [ecl] at hlog2
            obtain ⟨lad, lcap, rfl, _, _⟩ := hlog2.shape
            have hl9 : b.log.length ≤ 900000 := by rw [← ecl]; exact l9
            obtain ⟨ad', cap', hsl, happ⟩ := ens_rest (V := V2) hlog2 hpl hl9 hlt2
            have hdl : (b.log.drop p).length ≤ 900000 := by rw [List.length_drop]; omega
            obtain ⟨D, hD⟩ : ∃ D, b.log.drop p = D := ⟨_, rfl⟩
            rw [hD] at eG hsl happ hdl
            have HEG2 := Lib.hid eG
            clear eG hD
            have HAP := Lib.hid happ
            have HDL := Lib.hid hdl
            have r6 : V2.cell? ⟨A, 6, none⟩ = some (.int .i64 b.base) := by rw [← ecb]; exact hv2.cell 6
            have r9 : V2.cell? ⟨A, 9, none⟩ = some (.slice lad b.log.length lcap) := hv2.cell 9
            have i1 : IntKind.i64.wrap (m.index - b.base) = (p : Int) := by rw [IntKind.wrap_i64]; rw [ecb] at b0 b1; omega
            have HEND := Lib.hid hend
            clear hend hd l9 hl9 hdl b0 b1 ecb ecl hil hpt hpl hlt2 hv2 hlog2 hpn happ
            go_wp2_with fail
            go_cut [4] (fun v wx => (∃ ad2 cap2, v = .slice ad2 D.length cap2) ∧ Below V2.heap.size V2 wx ∧ Es wx (Un S c.av) D v)
            case first =>
              refine wp_region_fin (fun X => Below V2.heap.size V2 X) (fun X X' => Below X.heap.size X X') [
                fun v _ => v = .slice none 0 0,
                fun v _ => v = .pointer (some ⟨A, 0, none⟩),
                fun v _ => v = .pointer (some ⟨A, 0, none⟩),
                fun v _ => v = .pointer (some ⟨A, 9, none⟩),
                fun v _ => v = .slice lad b.log.length lcap,
                fun v _ => v = .pointer (some ⟨Y, 4, none⟩),
                fun v _ => v = .int .i64 m.index,
                fun v _ => v = .pointer (some ⟨A, 0, none⟩),
                fun v _ => v = .pointer (some ⟨A, 0, none⟩),
                fun v _ => v = .pointer (some ⟨A, 6, none⟩),
                fun v _ => v = .int .i64 b.base,
                fun v _ => v = .int .i64 (p : Int),
                fun v _ => v = .slice ad' D.length cap',
                fun v X => (∃ ad2 cap2, v = .slice ad2 D.length cap2) ∧ Es X (Un S c.av) D v]
                (fun v X => (∃ ad2 cap2, v = .slice ad2 D.length cap2) ∧ Below V2.heap.size V2 X ∧ Es X (Un S c.av) D v) rfl (by kernel_rfl) (by kernel_rfl) (by kernel_rfl) (by kernel_rfl) ?st ?g0 ?os ?la ?en
              case st => exact ⟨fun _ _ _ _ h => h, fun _ _ _ _ h => h, fun _ _ _ _ h => h, fun _ _ _ _ h => h, fun _ _ _ _ h => h, fun _ _ _ _ h => h, fun _ _ _ _ h => h, fun _ _ _ _ h => h, fun _ _ _ _ h => h, fun _ _ _ _ h => h, fun _ _ _ _ h => h, fun _ _ _ _ h => h, fun _ _ _ _ h => h, fun _ _ _ hs ⟨e, q⟩ => ⟨e, q.on hs⟩, trivial⟩
              case g0 => exact ⟨rfl, rfl, rfl, Nat.le_refl _, fun _ _ => rfl⟩
              case os =>
                refine ⟨?_, ?_, ?_, ?_, ?_, ?_, ?_, ?_, ?_, ?_, ?_, ?_, ?_, ?_, trivial⟩
                · exact ⟨rfl, fun ρ X hg ho hc hf hr => Runs.val _ (op_move (show ρ (.tmp 4) = .slice none 0 0 from ho 4 rfl)) ⟨hg, Below.refl _ _, rfl⟩⟩
                · exact ⟨rfl, fun ρ X hg ho hc hf hr => Runs.val _ (op_move (show ρ (.tmp 0) = .pointer (some ⟨A, 0, none⟩) from ho 0 rfl)) ⟨hg, Below.refl _ _, rfl⟩⟩
                · exact ⟨rfl, fun ρ X hg ho hc hf hr => Runs.val _ (op_nil (show ρ (.tmp 33) = .pointer (some ⟨A, 0, none⟩) from hr 1 33 rfl rfl)) ⟨hg, Below.refl _ _, rfl⟩⟩
                · exact ⟨rfl, fun ρ X hg ho hc hf hr => Runs.val _ (op_f81_9 (show ρ (.tmp 34) = .pointer (some ⟨A, 0, none⟩) from hr 2 34 rfl rfl)) ⟨hg, Below.refl _ _, rfl⟩⟩
                · exact ⟨rfl, fun ρ X hg ho hc hf hr => Runs.val _ (op_load32 (show ρ (.tmp 35) = .pointer (some ⟨A, 9, none⟩) from hr 3 35 rfl rfl) (cell_on hg r9)) ⟨hg, Below.refl _ _, rfl⟩⟩
                · exact ⟨rfl, fun ρ X hg ho hc hf hr => Runs.val _ (op_f34_4 (show ρ (.tmp 3) = .pointer (some ⟨Y, 0, none⟩) from ho 3 rfl)) ⟨hg, Below.refl _ _, rfl⟩⟩
                · exact ⟨rfl, fun ρ X hg ho hc hf hr => Runs.val _ (op_load3 (show ρ (.tmp 37) = .pointer (some ⟨Y, 4, none⟩) from hr 5 37 rfl rfl) (cell_on hg t4)) ⟨hg, Below.refl _ _, rfl⟩⟩
                · exact ⟨rfl, fun ρ X hg ho hc hf hr => Runs.val _ (op_move (show ρ (.tmp 0) = .pointer (some ⟨A, 0, none⟩) from ho 0 rfl)) ⟨hg, Below.refl _ _, rfl⟩⟩
                · exact ⟨rfl, fun ρ X hg ho hc hf hr => Runs.val _ (op_nil (show ρ (.tmp 39) = .pointer (some ⟨A, 0, none⟩) from hr 7 39 rfl rfl)) ⟨hg, Below.refl _ _, rfl⟩⟩
                · exact ⟨rfl, fun ρ X hg ho hc hf hr => Runs.val _ (op_f81_6 (show ρ (.tmp 40) = .pointer (some ⟨A, 0, none⟩) from hr 8 40 rfl rfl)) ⟨hg, Below.refl _ _, rfl⟩⟩
                · exact ⟨rfl, fun ρ X hg ho hc hf hr => Runs.val _ (op_load3 (show ρ (.tmp 41) = .pointer (some ⟨A, 6, none⟩) from hr 9 41 rfl rfl) (cell_on hg r6)) ⟨hg, Below.refl _ _, rfl⟩⟩
                · exact ⟨rfl, fun ρ X hg ho hc hf hr => Runs.val _ (op_sub (show ρ (.tmp 38) = .int .i64 m.index from hr 6 38 rfl rfl) (show ρ (.tmp 42) = .int .i64 b.base from hr 10 42 rfl rfl) i1) ⟨hg, Below.refl _ _, rfl⟩⟩
                · exact ⟨rfl, fun ρ X hg ho hc hf hr => Runs.val _ (op_slice' (show ρ (.tmp 36) = .slice lad b.log.length lcap from hr 4 36 rfl rfl) (show ρ (.tmp 43) = .int .i64 (p : Int) from hr 11 43 rfl rfl) hsl) ⟨hg, Below.refl _ _, rfl⟩⟩
                · refine ⟨rfl, fun ρ X hg ho hc hf hr => ?_⟩
                  obtain ⟨ad2, cap2, X', hrun, hb, hE⟩ := HAP.out X hg
                  exact Runs.val _ (op_append (show ρ (.tmp 32) = .slice none 0 0 from hr 0 32 rfl rfl) (show ρ (.tmp 44) = .slice ad' D.length cap' from hr 12 44 rfl rfl) hrun) ⟨hg.trans (hb.mono hg.size), hb, ⟨_, _, rfl⟩, hE⟩
              case la =>
                refine ⟨rfl, fun ρ X hg ho hc hf hr => ?_⟩
                obtain ⟨⟨ad2, cap2, e⟩, hE⟩ : (∃ ad2 cap2, ρ (.tmp 45) = .slice ad2 D.length cap2) ∧ Es X (Un S c.av) D (ρ (.tmp 45)) := hr 13 45 (by decide) rfl
                rw [e] at hE
                exact Runs.val _ (op_assign e) ⟨⟨_, _, rfl⟩, hg, hE⟩
              case en =>
                intro a X Xb v hF hs hd ho hv hr
                obtain ⟨x, hx, hxt⟩ := act_put hs hd ho
                have x4 : x 4 = v := (hxt 4).symm.trans (hv 4 rfl)
                change a = putAll _ x [32, 33, 34, 35, 36, 37, 38, 39, 40, 41, 42, 43, 44, 45, 4] at hx
                simp only [putAll, Act.put, List.setIfInBounds_toArray, List.set_cons_zero, List.set_cons_succ, x4] at hx
                have HG := Lib.hid hF
                clear hF hs hd ho hr hv hxt x4
                subst hx
                go_wp2_with fail
                go_meet
                exact HG.out
            case rest =>
              obtain ⟨⟨ad2, cap2, rfl⟩, hb3, hE3⟩ := hcut
              obtain ⟨V3, rfl⟩ : ∃ V3, V3 = wc := ⟨_, rfl⟩
              have hs := (HEND.out V3 _ _ (HB2.out.trans (hb3.mono HB2.out.size)) hE3 HDL.out).out
              have s1 : V3.cell? ⟨Y, 1, none⟩ = some (.int .i64 m.fr) := cell_on hb3 t1
              have s4 : V3.cell? ⟨Y, 4, none⟩ = some (.int .i64 m.index) := cell_on hb3 t4
              have s5 : V3.cell? ⟨Y, 5, none⟩ = some (.int .i64 m.prev) := cell_on hb3 t5
              have s9 : V3.cell? ⟨Y, 9, none⟩ = some (.string m.snap) := cell_on hb3 t9
              clear hsl r6 r9 i1 t1 t4 t5 t9 hb3 hE3
              go_wp2_with fail
              refine hs.mono ?_
              rintro e V4 ⟨rfl, g1, g2, g3, g4, hs2⟩
              have hs3 := hs2.out
              clear hs hs2 s1 s4 s5 s9
              go_wp2_with fail
              refine hs3.mono ?_
              rintro e w' ⟨rfl, q⟩
              have HQ := Lib.hid q
              clear q hs3
              go_wp2
              go_end0
              exact ⟨rfl, by rw [HEG2.out]; exact HQ.out⟩
end
end Go.Proofs.Ytmiagjcihmenfaa
