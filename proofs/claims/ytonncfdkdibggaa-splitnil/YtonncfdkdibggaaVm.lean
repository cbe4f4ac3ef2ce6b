/- The law SplitParts. -/
import Derived.Test.YtonncfdkdibggaaVl
namespace Go.Proofs.Ytonncfdkdibggaa
open Go.RowKit
section
variable {w w' W V X : World} {L : List ByteArray} {v : Value}
set_option maxHeartbeats 4000000 in
set_option maxRecDepth 100000 in
theorem parts_law (hl : Ls w L v) (hs : Sz L) (hz : L.length * 16 ≤ 140737488355328) {a b : ByteArray} (ha : a.size ≤ maxLen) (hb : b.size ≤ maxLen) : Calls Try.prog 5 #[v, .agg #[.string a, .string b]] w fun e w' => e = .returned (.bool true) ∧ Below w.heap.size w w' := by
  obtain ⟨W, hW⟩ : ∃ W, W = w.alloc (.cells #[.string a, .string b] 34) := ⟨_, rfl⟩
  obtain ⟨Y, hY⟩ : ∃ Y, w.heap.size = Y := ⟨_, rfl⟩
  have hbW : Below w.heap.size w W := by rw [hW]; exact (Below.refl _ w).alloc (Nat.le_refl _) _
  have jY : W.heap[Y]? = some (.cells #[.string a, .string b] 34 (0, 0)) := by rw [hW, ← hY]; exact heap_alloc_new w _
  obtain ⟨ad', cap', wc, hrun, ho, hbc⟩ := copy_run (hl.on hbW) hz
  have hl' := hl
  obtain ⟨ad, cap, rfl, h0, h1, h2, _⟩ := hl'
  have hnew := new_any (Ls.own ho)
  have HW := Lib.hid hW
  have HY := Lib.hid hY
  have HJ := Lib.hid jY
  have HB := Lib.hid (hbW.trans (hbc.mono hbW.size))
  have HBC := Lib.hid hbc
  have HO := Lib.hid ho
  have HL := Lib.hid hl
  have HYW := Lib.hid (blk_lt jY)
  have hmx : (L.length : Int) ≤ 9223372036854775806 := by omega
  clear ho h0 h1 h2 hl hz hW hY hbW jY hbc
  by_cases hok : okB L = true
  · go_enter Try.func5, Try.ntmps5
    go_upto_region 1 with fail
    rw [← HW.out, HY.out]
    go_wp2_with (first | (at_builtin; refine wpl_run2 _ _ rfl (by simp [Act.eval]) (by simp [Act.eval]) hrun ?_) | (go_at_call 8; refine hnew.mono ?_; rintro e w1 ⟨hb1, hq | hq⟩; rotate_left; exact absurd (hok.symm.trans hq.1) (by decide); obtain ⟨_, B, rfl, hsp⟩ := hq; refine Hid.out ?_))
    refine Lib.hid ?_
    have hfew := hsp.few
    have haw := awake_any w1
    have HB1 := Lib.hid hb1
    have HSP := Lib.hid hsp
    clear hsp hb1 hnew hok
    go_wp2_with (go_at_call 10; refine haw.mono ?_; rintro e w2 ⟨rfl, hb2⟩; refine Hid.out ?_)
    refine Lib.hid ?_
    have hc2 : Below wc.heap.size wc w2 := HB1.out.trans (hb2.mono HB1.out.size)
    have HR0 : Hid (Ri w w2 wc.heap.size B Y W.heap.size L a b (.slice ad' L.length cap')) := Lib.hid
      ⟨⟨_, own_below HO.out hc2⟩, HSP.out.on hb2, (hc2.block Y (Nat.lt_of_lt_of_le HYW.out HBC.out.size)).trans ((HBC.out.block Y HYW.out).trans HJ.out), HB.out.trans (hc2.mono HB.out.size)⟩
    have hgl : ∀ g, ad' = some ⟨g, 0, none⟩ → g < wc.heap.size := fun g e => (HO.out.lt g (by rw [e]; rfl)).2
    have HGL := Lib.hid hgl
    clear hb2 haw hc2 hgl
    go_wp2
    go_loopw [29] (fun iv wr => ∃ i : Nat, i ≤ L.length ∧ iv = .int .i64 (i : Int) ∧ Ri w wr wc.heap.size B Y W.heap.size L a b (.slice ad' L.length cap')) (fun iv _ => L.length - (intOf iv).toNat)
    case atStart => exact ⟨0, Nat.zero_le _, rfl, HR0.out⟩
    case round =>
      obtain ⟨i, hi, rfl, hri⟩ := hrel
      obtain ⟨V, rfl⟩ : ∃ V, V = wr := ⟨_, rfl⟩
      clear HR0
      by_cases hlt : i < L.length
      · have k1 : (i : Int) < L.length := by omega
        have k0 : (0 : Int) ≤ i := by omega
        obtain ⟨g, rfl⟩ : ∃ g, ad' = some ⟨g, 0, none⟩ := by
          obtain ⟨M, hM⟩ := hri.own
          rcases hM.2 with ⟨_, h0⟩ | ⟨g, cap'', cur, hv, _⟩
          · omega
          · cases hv
            exact ⟨g, rfl⟩
        obtain ⟨fz, u, cu⟩ := hri.cell hlt
        have HP := Lib.hid (hri.put (HGL.out g rfl) HYW.out (by have := HY.out; have := HYW.out; omega) i ⟨#[115, 112, 111, 105, 108, 116]⟩)
        clear hri
        go_wp2
        go_roundw
        case rel => exact ⟨i + 1, hlt, by go_num, HP.out⟩
        case measure => simp [intOf]; omega
      · have k1 : ¬ ((i : Int) < L.length) := by omega
        have y0 : V.cell? ⟨Y, 0, none⟩ = some (.string a) := cell_blk hri.box 0
        have y1 : V.cell? ⟨Y, 1, none⟩ = some (.string b) := cell_blk hri.box 1
        have hsp := hri.sp
        have hlv := HL.out.on hri.bl
        have HBV := Lib.hid hri.bl
        have hpa := fun X (hX : Below V.heap.size V X) => parts_any (hsp.on hX) a b
        have hra := fun X (hX : Below V.heap.size V X) => ref_any (hlv.on hX) hs hfew ha hb
        have HPA := Lib.hid hpa
        have HRA := Lib.hid hra
        obtain ⟨P, hP⟩ : ∃ P, partsB L a b (L.length + 1) = P := ⟨_, rfl⟩
        rw [hP] at HPA HRA
        have hPl : P.length ≤ 4 := by rw [← hP]; have := parts_few L a b (L.length + 1); omega
        clear hri hsp hlv hpa hra hP
        go_upto_region 10 with fail
        refine wp_region_kept (fun X9 => Below V.heap.size V X9) (fun X9 X' => Below X9.heap.size X9 X') [
          fun v9 _ => v9 = .pointer (some ⟨B, 0, none⟩),
          fun v9 _ => v9 = .agg #[.string a, .string b],
          fun v9 X9 => Pr X9 P v9,
          fun v9 _ => v9 = .slice ad L.length cap,
          fun v9 _ => v9 = .agg #[.string a, .string b],
          fun v9 X9 => Pr X9 P v9,
          fun v9 X9 => Pr X9 P v9,
          fun v9 X9 => Pr X9 P v9]
          (by kernel_rfl) (by kernel_rfl) (by kernel_rfl) ?st ?g0 ?os ?en
        case st => exact ⟨fun _ _ _ _ h => h, fun _ _ _ _ h => h, fun _ _ _ hb h => h.on hb, fun _ _ _ _ h => h, fun _ _ _ _ h => h, fun _ _ _ hb h => h.on hb, fun _ _ _ hb h => h.on hb, fun _ _ _ hb h => h.on hb, trivial⟩
        case g0 => exact ⟨rfl, rfl, rfl, Nat.le_refl _, fun _ _ => rfl⟩
        case os =>
          refine ⟨?_, ?_, ?_, ?_, ?_, ?_, ?_, ?_, trivial⟩
          · exact ⟨rfl, fun ρ X9 hg ho hc hf hr => Runs.val _ (op_move (show ρ (.tmp 6) = .pointer (some ⟨B, 0, none⟩) from ho 6 rfl)) ⟨hg, Below.refl _ _, rfl⟩⟩
          · exact ⟨rfl, fun ρ X9 hg ho hc hf hr => Runs.val _ (op_load34 (show ρ (.tmp 3) = .pointer (some ⟨Y, 0, none⟩) from ho 3 rfl) (cell_on hg y0) (cell_on hg y1)) ⟨hg, Below.refl _ _, rfl⟩⟩
          · refine ⟨rfl, fun ρ X9 hg ho hc hf hr => ?_⟩
            refine Runs.goes 14 #[.pointer (some ⟨B, 0, none⟩), .agg #[.string a, .string b]] (op_call2 hf call14 (show ρ (.tmp 36) = .pointer (some ⟨B, 0, none⟩) from hr 0 36 rfl rfl) (show ρ (.tmp 37) = .agg #[.string a, .string b] from hr 1 37 rfl rfl)) ((HPA.out X9 hg).mono ?_)
            rintro e7 w7 ⟨ad7, cap7, rfl, ho7, hb7⟩
            exact ⟨_, rfl, hg.trans (hb7.mono hg.size), hb7, ⟨_, ho7⟩⟩
          · exact ⟨rfl, fun ρ X9 hg ho hc hf hr => Runs.val _ (op_move (show ρ (.tmp 0) = .slice ad L.length cap from ho 0 rfl)) ⟨hg, Below.refl _ _, rfl⟩⟩
          · exact ⟨rfl, fun ρ X9 hg ho hc hf hr => Runs.val _ (op_load34 (show ρ (.tmp 3) = .pointer (some ⟨Y, 0, none⟩) from ho 3 rfl) (cell_on hg y0) (cell_on hg y1)) ⟨hg, Below.refl _ _, rfl⟩⟩
          · refine ⟨rfl, fun ρ X9 hg ho hc hf hr => ?_⟩
            refine Runs.goes 15 #[.slice ad L.length cap, .agg #[.string a, .string b]] (op_call2 hf call15 (show ρ (.tmp 39) = .slice ad L.length cap from hr 3 39 rfl rfl) (show ρ (.tmp 40) = .agg #[.string a, .string b] from hr 4 40 rfl rfl)) ((HRA.out X9 hg).mono ?_)
            rintro e7 w7 ⟨ad7, cap7, rfl, ho7, hb7⟩
            exact ⟨_, rfl, hg.trans (hb7.mono hg.size), hb7, ⟨_, ho7⟩⟩
          · exact ⟨rfl, fun ρ X9 hg ho hc hf hr => Runs.val _ (op_assign rfl) ⟨hg, Below.refl _ _, (hr 2 38 rfl rfl : Pr X9 P (ρ (.tmp 38)))⟩⟩
          · exact ⟨rfl, fun ρ X9 hg ho hc hf hr => Runs.val _ (op_assign rfl) ⟨hg, Below.refl _ _, (hr 5 41 rfl rfl : Pr X9 P (ρ (.tmp 41)))⟩⟩
        case en =>
          intro a9 X9 hg hs9 hd ho hr
          obtain ⟨x9, hx, hxt⟩ := act_put hs9 hd ho
          have p1 : Pr X9 P (x9 9) := by rw [← hxt 9]; exact hr 6 9 rfl
          have p2 : Pr X9 P (x9 10) := by rw [← hxt 10]; exact hr 7 10 rfl
          obtain ⟨e1, e2⟩ : (∃ ad1 cap1, x9 9 = .slice ad1 P.length cap1) ∧ (∃ ad2 cap2, x9 10 = .slice ad2 P.length cap2) := by
            obtain ⟨_, q1⟩ := p1
            obtain ⟨_, q2⟩ := p2
            exact ⟨own_shape q1, own_shape q2⟩
          obtain ⟨ad1, cap1, e1⟩ := e1
          obtain ⟨ad2, cap2, e2⟩ := e2
          rw [e1] at p1
          rw [e2] at p2
          change a9 = putAll _ x9 [36, 37, 38, 39, 40, 41, 9, 10] at hx
          simp only [putAll, Act.put, List.setIfInBounds_toArray, List.set_cons_zero, List.set_cons_succ, e1, e2] at hx
          have HG := Lib.hid (HBV.out.trans (hg.mono HBV.out.size))
          have HP1 := Lib.hid p1
          have HP2 := Lib.hid p2
          clear hg hs9 hd ho hr hxt e1 e2 p1 p2 HPA HRA y0 y1
          subst hx
          generalize x9 36 = z36, x9 37 = z37, x9 38 = z38, x9 39 = z39, x9 40 = z40, x9 41 = z41
          go_wp2
          go_loopw [49] (fun iv wr => ∃ i : Nat, i ≤ P.length ∧ iv = .int .i64 (i : Int) ∧ Below X9.heap.size X9 wr) (fun iv _ => P.length - (intOf iv).toNat)
          case atStart => exact ⟨0, Nat.zero_le _, rfl, Below.refl _ _⟩
          case round =>
            obtain ⟨j, hj, rfl, hbx⟩ := hrel
            obtain ⟨U, rfl⟩ : ∃ U, U = wr := ⟨_, rfl⟩
            by_cases hlt : j < P.length
            · have k2 : (j : Int) < P.length := by omega
              have k3 : (0 : Int) ≤ j := by omega
              obtain ⟨g1, rfl, c0, c1, c2⟩ := (HP1.out.on hbx).cells hlt
              obtain ⟨g2, rfl, d0, d1, d2⟩ := (HP2.out.on hbx).cells hlt
              have e1 := same_eq P[j].lo P[j].lo
              have e2 := same_eq P[j].hi P[j].hi
              simp only [decide_true] at e1 e2
              have HBX := Lib.hid hbx
              clear hbx
              go_wp2
              go_quiet (fail)
              go_wp2
              go_roundw
              case rel => exact ⟨j + 1, hlt, by go_num, below_draw HBX.out nq⟩
              case measure => simp [intOf]; omega
            · have k2 : ¬ ((j : Int) < P.length) := by omega
              have HBX := Lib.hid hbx
              clear hbx
              go_wp2
              go_ret
              exact ⟨rfl, HG.out.trans (HBX.out.mono HG.out.size)⟩
  · have hok : okB L = false := by simpa using hok
    go_enter Try.func5, Try.ntmps5
    go_upto_region 1 with fail
    rw [← HW.out, HY.out]
    go_wp2_with (first | (at_builtin; refine wpl_run2 _ _ rfl (by simp [Act.eval]) (by simp [Act.eval]) hrun ?_) | (go_at_call 8; refine hnew.mono ?_; rintro e w1 ⟨hb1, hq | hq⟩; exact absurd (hok.symm.trans hq.1) (by decide); obtain ⟨_, rfl⟩ := hq; refine Hid.out ?_))
    refine Lib.hid ?_
    have HB1 := Lib.hid (HB.out.trans (hb1.mono HB.out.size))
    have haw := awake_any w1
    clear hb1 hnew hok
    go_wp2_with (go_at_call 10; refine haw.mono ?_; rintro e w3 ⟨rfl, hb3⟩; refine Hid.out ?_)
    refine Lib.hid ?_
    have HB3 := Lib.hid (HB1.out.trans (hb3.mono HB1.out.size))
    have haw2 := awake_any w3
    clear haw hb3
    go_wp2_with (go_at_call 10; refine haw2.mono ?_; rintro e w4 ⟨rfl, hb4⟩; refine Hid.out ?_)
    refine Lib.hid ?_
    have HB4 := Lib.hid (HB3.out.trans (hb4.mono HB3.out.size))
    clear haw2 hb4
    go_wp2
    go_ret
    exact ⟨rfl, HB4.out⟩
end
end Go.Proofs.Ytonncfdkdibggaa
