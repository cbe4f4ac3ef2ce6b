/- The law RowsFill. -/
import Derived.Test.YtbepekgaipipjaaTo
namespace Go.Proofs.Ytbepekgaipipjaa
open Go.RowKit Go.Maps
set_option maxHeartbeats 8000000 in
set_option maxRecDepth 100000 in
theorem fill_law {w : World} {La Lb : List Ch} {av bv : Value} (hA : Lr chE 4 w La av) (hB : Lr chE 4 w Lb bv) : Calls Try.prog 7 #[av, bv] w fun e w' => e = .returned (.bool true) ∧ Below w.heap.size w w' := by
  obtain ⟨ad, cap, rfl, hmxa⟩ := hA.len0
  obtain ⟨ad', cap', rfl, hmxb⟩ := hB.len0
  have HLA := Lib.hid hA
  have HLB := Lib.hid hB
  have haw := awake_any w
  clear hA hB
  by_cases g1 : 200 < La.length
  · have k1 : (200 : Int) < La.length := by omega
    go_enter Try.func7, Try.ntmps7
    go_wp2_with (go_at_call 10; refine haw.mono ?_; rintro e w1 ⟨rfl, b1⟩; refine Hid.out ?_)
    refine Lib.hid ?_
    have HB1 := Lib.hid b1
    have haw := awake_any w1
    clear b1
    go_wp2_with (go_at_call 10; refine haw.mono ?_; rintro e w2 ⟨rfl, b2⟩; refine Hid.out ?_)
    refine Lib.hid ?_
    have HB2 := Lib.hid (bgo HB1.out b2)
    clear haw b2
    go_wp2
    go_ret
    exact ⟨rfl, HB2.out⟩
  · have k1 : ¬ ((200 : Int) < La.length) := by omega
    by_cases g2 : 200 < Lb.length
    · have k2 : (200 : Int) < Lb.length := by omega
      go_enter Try.func7, Try.ntmps7
      go_wp2_with (go_at_call 10; refine haw.mono ?_; rintro e w1 ⟨rfl, b1⟩; refine Hid.out ?_)
      refine Lib.hid ?_
      have HB1 := Lib.hid b1
      have haw := awake_any w1
      clear b1
      go_wp2_with (go_at_call 10; refine haw.mono ?_; rintro e w2 ⟨rfl, b2⟩; refine Hid.out ?_)
      refine Lib.hid ?_
      have HB2 := Lib.hid (bgo HB1.out b2)
      clear haw b2
      go_wp2
      go_ret
      exact ⟨rfl, HB2.out⟩
    · have k2 : ¬ ((200 : Int) < Lb.length) := by omega
      have HG : Hid (La.length ≤ 200 ∧ Lb.length ≤ 200) := Lib.hid (by omega)
      go_enter Try.func7, Try.ntmps7
      go_wp2_with (go_at_call 10; refine haw.mono ?_; rintro e w1 ⟨rfl, b1⟩; refine Hid.out ?_)
      refine Lib.hid ?_
      have HB1 := Lib.hid b1
      have hpl := played_sub (HLA.out.on chE_held b1) (HLB.out.on chE_held b1) HG.out.1 HG.out.2
      clear haw b1
      go_upto_region 4 with (go_at_call 32; refine hpl.mono ?_; rintro e w2 ⟨A, M, N, rfl, hbd, hN, hAM, b2⟩; refine Hid.out ?_)
      refine Lib.hid ?_
      have HB2 := Lib.hid (bgo HB1.out b2)
      obtain ⟨R, P, m, hR, hP, hw⟩ := hbd
      have HW2 := Lib.hid hw
      have HRK := Lib.hid hR
      have HPW := Lib.hid hP
      have HNN := Lib.hid hN
      have HABX : Hid (w.heap.size ≤ A ∧ w.heap.size ≤ M) := Lib.hid (by have := HB1.out.size; omega)
      clear hpl b2 hw hR hP hN hAM
      go_upto_region 4 with fail
      refine wp_region_fb (fun _ X9 => Below w2.heap.size w2 X9) (fun X9 X8 => Below X9.heap.size X9 X8) [
        fun v9 _ => v9 = .pointer (some ⟨A, 0, none⟩),
        fun v9 _ => v9 = .pointer (some ⟨A, 0, none⟩),
        fun v9 _ => v9 = .pointer (some ⟨A, 4, none⟩),
        fun v9 _ => v9 = .map (some M),
        fun v9 _ => v9 = .pointer (some ⟨A, 0, none⟩),
        fun v9 X9 => ∃ M2 N2 m2, v9 = .map (some M2) ∧ Es X9 M2 N2 m2 (WtB R 4),
        fun v9 _ => v9 = .bool true,
        fun v9 _ => v9 = .bool false]
        (by kernel_rfl) (by kernel_rfl) (by kernel_rfl) ?st ?g0 ?os ?en
      case st => exact ⟨fun _ _ _ _ h => h, fun _ _ _ _ h => h, fun _ _ _ _ h => h, fun _ _ _ _ h => h, fun _ _ _ _ h => h, (fun _ _ _ hb h => by obtain ⟨M2, N2, m2, e9, h9⟩ := h; exact ⟨M2, N2, m2, e9, h9.stays (hb.block M2 h9.lt)⟩), fun _ _ _ _ h => h, fun _ _ _ _ h => h, trivial⟩
      case g0 => exact ⟨rfl, rfl, rfl, Nat.le_refl _, fun _ _ => rfl⟩
      case os =>
        refine ⟨?_, ?_, ?_, ?_, ?_, ?_, ?_, ?_, trivial⟩
        · exact fun ρ X9 fl hg hn hl hp ho hc hf hr => .inl ⟨rfl, Runs.val _ (op_move (show ρ (.tmp 5) = .pointer (some ⟨A, 0, none⟩) from ho 5 rfl)) ⟨hg, Below.refl _ _, rfl⟩⟩
        · exact fun ρ X9 fl hg hn hl hp ho hc hf hr => .inl ⟨rfl, Runs.val _ (op_nil (show ρ (.tmp 24) = .pointer (some ⟨A, 0, none⟩) from hr 0 24 rfl rfl)) ⟨hg, Below.refl _ _, rfl⟩⟩
        · exact fun ρ X9 fl hg hn hl hp ho hc hf hr => .inl ⟨rfl, Runs.val _ (op_f65_1 (show ρ (.tmp 25) = .pointer (some ⟨A, 0, none⟩) from hr 1 25 rfl rfl)) ⟨hg, Below.refl _ _, rfl⟩⟩
        · exact fun ρ X9 fl hg hn hl hp ho hc hf hr => .inl ⟨rfl, Runs.val _ (op_load63 (show ρ (.tmp 26) = .pointer (some ⟨A, 4, none⟩) from hr 2 26 rfl rfl) ((HW2.out.stays hg).c4)) ⟨hg, Below.refl _ _, rfl⟩⟩
        · exact fun ρ X9 fl hg hn hl hp ho hc hf hr => .inl ⟨rfl, Runs.val _ (op_move (show ρ (.tmp 5) = .pointer (some ⟨A, 0, none⟩) from ho 5 rfl)) ⟨hg, Below.refl _ _, rfl⟩⟩
        · intro ρ X9 fl hg hn hl hp ho hc hf hr
          refine .inl ⟨rfl, ?_⟩
          refine Runs.goes 34 #[.pointer (some ⟨A, 0, none⟩)] (op_call1 hf (by go_simp) (show ρ (.tmp 28) = .pointer (some ⟨A, 0, none⟩) from hr 4 28 rfl rfl)) ((wanted_any (HW2.out.stays hg) HRK.out).mono ?_)
          rintro e7 w7 ⟨M7, N7, m7, rfl, h7, b7⟩
          exact ⟨_, rfl, bgo hg b7, b7, M7, N7, m7, rfl, h7⟩
        · intro ρ X9 fl hg hn hl hp ho hc hf hr
          obtain ⟨M9, N9, m9, e9, h9⟩ : ∃ M2 N2 m2, ρ (.tmp 29) = .map (some M2) ∧ Es X9 M2 N2 m2 (WtB R 4) := hr 5 29 rfl rfl
          refine .inl ⟨rfl, ?_⟩
          refine Runs.goes 33 #[.map (some M), .map (some M9)] (op_call2 hf (by go_simp) (show ρ (.tmp 27) = .map (some M) from hr 3 27 rfl rfl) e9) ((within_yes (HW2.out.stays hg).es h9 (fun x h => HPW.out x h)).mono ?_)
          rintro e7 w7 ⟨rfl, b7⟩
          exact ⟨_, rfl, bgo hg b7, b7, rfl⟩
        · exact fun ρ X9 fl hg hn hl hp ho hc hf hr => .inl ⟨rfl, Runs.val _ (op_not (show ρ (.tmp 30) = .bool true from hr 6 30 rfl rfl) ) ⟨hg, Below.refl _ _, rfl⟩⟩
      case en =>
        intro a9 w6 fl hfl b6 hs9 hd9 ho9 hr9
        obtain ⟨x9, hx, hxt⟩ := act_put hs9 hd9 ho9
        have x31 : x9 31 = .bool false := (hxt 31).symm.trans (hr9 7 31 rfl)
        change a9 = putAll _ x9 [24, 25, 26, 27, 28, 29, 30, 31] at hx
        simp only [putAll, Act.put, List.setIfInBounds_toArray, List.set_cons_zero, List.set_cons_succ, x31] at hx
        subst hx
        clear hs9 hd9 ho9 hr9 hfl x31
        generalize x9 24 = z24, x9 25 = z25, x9 26 = z26, x9 27 = z27, x9 28 = z28, x9 29 = z29, x9 30 = z30
        have HB6 := Lib.hid (bgo HB2.out b6)
        have HW6 := Lib.hid (HW2.out.stays b6)
        clear b6
        obtain ⟨⟨s, ja, ho⟩, _⟩ := HW6.out
        obtain ⟨a0, p0, e0⟩ := own_shape (ho 0)
        have HO0 : Hid (w6.ownsRow 0 89 4 (.slice a0 (R 0).length p0) (R 0).length ((R 0).flatMap ceL)) := Lib.hid (by have q := ho 0; rw [e0] at q; exact q)
        obtain ⟨a1, p1, e1⟩ := own_shape (ho 1)
        have HO1 : Hid (w6.ownsRow 0 89 4 (.slice a1 (R 1).length p1) (R 1).length ((R 1).flatMap ceL)) := Lib.hid (by have q := ho 1; rw [e1] at q; exact q)
        obtain ⟨a2, p2, e2⟩ := own_shape (ho 2)
        have HO2 : Hid (w6.ownsRow 0 89 4 (.slice a2 (R 2).length p2) (R 2).length ((R 2).flatMap ceL)) := Lib.hid (by have q := ho 2; rw [e2] at q; exact q)
        obtain ⟨a3, p3, e3⟩ := own_shape (ho 3)
        have HO3 : Hid (w6.ownsRow 0 89 4 (.slice a3 (R 3).length p3) (R 3).length ((R 3).flatMap ceL)) := Lib.hid (by have q := ho 3; rw [e3] at q; exact q)
        have HT : Hid (∀ q, q = A ∨ q = M → ∀ cs, w6.heap[q]? ≠ some (.cells cs 89 (0, 0))) := Lib.hid (by
          rintro q (rfl | rfl) cs h
          · rw [ja] at h; simp at h
          · obtain ⟨es, cl, jm⟩ := HW6.out.es.block
            rw [jm] at h; cases h)
        rw [e0, e1, e2, e3] at ja
        have c0 : w6.cell? ⟨A, 0, none⟩ = some (.slice a0 (R 0).length p0) := cell_blk ja 0
        have c1 : w6.cell? ⟨A, 1, none⟩ = some (.slice a1 (R 1).length p1) := cell_blk ja 1
        have c2 : w6.cell? ⟨A, 2, none⟩ = some (.slice a2 (R 2).length p2) := cell_blk ja 2
        have c3 : w6.cell? ⟨A, 3, none⟩ = some (.slice a3 (R 3).length p3) := cell_blk ja 3
        have HAB := HABX
        clear ja ho e0 e1 e2 e3
        go_wp2
        clear c0 c1 c2 c3
        have i0 : ∀ w : World, (Instr.index 62 (.agg #[.slice a0 (R 0).length p0, .slice a1 (R 1).length p1, .slice a2 (R 2).length p2, .slice a3 (R 3).length p3]) (.int .i64 0)).run Try.prog w = .ok (.slice a0 (R 0).length p0) w := fun _ => by kernel_rfl
        have i1 : ∀ w : World, (Instr.index 62 (.agg #[.slice a0 (R 0).length p0, .slice a1 (R 1).length p1, .slice a2 (R 2).length p2, .slice a3 (R 3).length p3]) (.int .i64 1)).run Try.prog w = .ok (.slice a1 (R 1).length p1) w := fun _ => by kernel_rfl
        have i2 : ∀ w : World, (Instr.index 62 (.agg #[.slice a0 (R 0).length p0, .slice a1 (R 1).length p1, .slice a2 (R 2).length p2, .slice a3 (R 3).length p3]) (.int .i64 2)).run Try.prog w = .ok (.slice a2 (R 2).length p2) w := fun _ => by kernel_rfl
        have i3 : ∀ w : World, (Instr.index 62 (.agg #[.slice a0 (R 0).length p0, .slice a1 (R 1).length p1, .slice a2 (R 2).length p2, .slice a3 (R 3).length p3]) (.int .i64 3)).run Try.prog w = .ok (.slice a3 (R 3).length p3) w := fun _ => by kernel_rfl
        go_loopw [36] (fun iv wr => ∃ i : Nat, i ≤ 4 ∧ iv = .int .i64 (i : Int) ∧ (∃ N' m' P', N' ≤ 2000 + 3 * i ∧ Wd wr A M N' m' R P' ∧ (∀ x, P' x → WtB R 4 x) ∧ ∀ x, WtB R i x → P' x) ∧ Fr w6 wr (fun j => j = A ∨ j = M) ∧ Below w.heap.size w wr) (fun iv _ => 4 - (intOf iv).toNat)
        case atStart => exact ⟨0, by omega, rfl, ⟨N, m, P, HNN.out, HW6.out, HPW.out, fun x ⟨_, _, h, _⟩ => by omega⟩, Fr.refl _ _, HB6.out⟩
        case round =>
          obtain ⟨i, hi, rfl, ⟨N', m', P', hN', hw', hp1, hp2⟩, hf, hb⟩ := hrel
          have HN' := Lib.hid hN'
          have HWR := Lib.hid hw'
          have HP1 := Lib.hid hp1
          have HP2 := Lib.hid hp2
          have HFR := Lib.hid hf
          have HBR := Lib.hid hb
          clear hN' hw' hp1 hp2 hf hb
          rcases (show i = 0 ∨ i = 1 ∨ i = 2 ∨ i = 3 ∨ i = 4 by omega) with rfl | rfl | rfl | rfl | rfl
          · rcases HRK.out 0 with hr | ⟨b, _, hb3, hr⟩
            · have HRR := Lib.hid hr
              have k1 : ((R 0).length : Int) = 0 := by rw [hr]; rfl
              clear hr
              go_wp2
              go_roundw
              case rel => exact ⟨1, by omega, by go_num, ⟨N', m', P', by have := HN'.out; omega, HWR.out, HP1.out, fun x h => HP2.out x ((WtB.nil HRR.out x).1 h)⟩, HFR.out, HBR.out⟩
              case measure => simp [intOf]
            · have HRR := Lib.hid hr
              have HBB := Lib.hid hb3
              have k1 : ¬ ((R 0).length : Int) = 0 := by rw [hr]; simp [rowC]
              have h30 : Calls Try.prog 30 #[.slice a0 (R 0).length p0, .int .i64 3] wr fun e w' => (∃ kq sq, e = .returned (.agg #[.int .i64 kq, .int .i64 (b : Int), .string sq])) ∧ Below wr.heap.size wr w' := by
                have q := of_any 3 wr (Lr.own (f := ceL) ceL_len (keep_rowB HO0.out HFR.out HT.out))
                rw [show ofP (R 0) 3 = nv b by rw [hr]; exact ofP_row 0 b] at q
                exact q.mono fun e w' h => ⟨⟨_, _, h.1⟩, h.2⟩
              clear hr hb3
              go_wp2_with (go_at_call 30; refine h30.mono ?_; rintro e w3 ⟨⟨kq, sq, rfl⟩, b3⟩; refine Hid.out ?_)
              refine Lib.hid ?_
              have HB3 := Lib.hid b3
              have hdo : Calls Try.prog 35 #[.pointer (some ⟨A, 0, none⟩), .agg #[.int .i64 0, .int .i64 (b : Int), .bool false, .bool false], .int .i64 2] w3 fun e X' => e = .returned (.tuple #[]) ∧ (∃ m9 P9, Wd X' A M (N' + 3) m9 R P9 ∧ ∀ x, P9 x ↔ (P' x ∨ x = entB 0 b)) ∧ Fr w3 X' (fun j => j = A ∨ j = M) := fill_do (i := 0) (HWR.out.stays b3) HRK.out (by have := HN'.out; omega) (by decide) HBB.out HRR.out
              have hfl : ∀ W : World, (Instr.field 23 (.agg #[.int .i64 kq, .int .i64 (b : Int), .string sq]) 1).run Try.prog W = .ok (.int .i64 (b : Int)) W := fun _ => by kernel_rfl
              clear h30 b3 k1
              go_wp2_with (go_at_call 35; refine hdo.mono ?_; rintro e w4 ⟨rfl, ⟨m9, P9, hwq, hx9⟩, hf9⟩; refine Hid.out ?_)
              refine Lib.hid ?_
              have H9 := Lib.hid hwq
              have HX9 := Lib.hid hx9
              have HF9 := Lib.hid hf9
              clear hdo hfl hwq hx9 hf9
              go_wp2
              go_roundw
              case rel =>
                refine ⟨1, by omega, by go_num, ⟨N' + 3, m9, P9, by have := HN'.out; omega, H9.out, fun x h => ?_, fun x h => ?_⟩, (HFR.out.below HB3.out).step HF9.out (fun j e => .inl e), (bgo HBR.out HB3.out).trans (HF9.out.toBelow (fun q hq e => by have := HAB.out; omega) (Nat.le_trans HBR.out.size HB3.out.size))⟩
                · rcases (HX9.out x).1 h with q | rfl
                  · exact HP1.out x q
                  · exact ⟨0, b, by decide, HBB.out, HRR.out, rfl⟩
                · rcases (WtB.row HBB.out HRR.out x).1 h with q | q
                  · exact (HX9.out x).2 (.inl (HP2.out x q))
                  · exact (HX9.out x).2 (.inr q)
              case measure => simp [intOf]
          · rcases HRK.out 1 with hr | ⟨b, _, hb3, hr⟩
            · have HRR := Lib.hid hr
              have k1 : ((R 1).length : Int) = 0 := by rw [hr]; rfl
              clear hr
              go_wp2
              go_roundw
              case rel => exact ⟨2, by omega, by go_num, ⟨N', m', P', by have := HN'.out; omega, HWR.out, HP1.out, fun x h => HP2.out x ((WtB.nil HRR.out x).1 h)⟩, HFR.out, HBR.out⟩
              case measure => simp [intOf]
            · have HRR := Lib.hid hr
              have HBB := Lib.hid hb3
              have k1 : ¬ ((R 1).length : Int) = 0 := by rw [hr]; simp [rowC]
              have h30 : Calls Try.prog 30 #[.slice a1 (R 1).length p1, .int .i64 3] wr fun e w' => (∃ kq sq, e = .returned (.agg #[.int .i64 kq, .int .i64 (b : Int), .string sq])) ∧ Below wr.heap.size wr w' := by
                have q := of_any 3 wr (Lr.own (f := ceL) ceL_len (keep_rowB HO1.out HFR.out HT.out))
                rw [show ofP (R 1) 3 = nv b by rw [hr]; exact ofP_row 1 b] at q
                exact q.mono fun e w' h => ⟨⟨_, _, h.1⟩, h.2⟩
              clear hr hb3
              go_wp2_with (go_at_call 30; refine h30.mono ?_; rintro e w3 ⟨⟨kq, sq, rfl⟩, b3⟩; refine Hid.out ?_)
              refine Lib.hid ?_
              have HB3 := Lib.hid b3
              have hdo : Calls Try.prog 35 #[.pointer (some ⟨A, 0, none⟩), .agg #[.int .i64 1, .int .i64 (b : Int), .bool false, .bool false], .int .i64 2] w3 fun e X' => e = .returned (.tuple #[]) ∧ (∃ m9 P9, Wd X' A M (N' + 3) m9 R P9 ∧ ∀ x, P9 x ↔ (P' x ∨ x = entB 1 b)) ∧ Fr w3 X' (fun j => j = A ∨ j = M) := fill_do (i := 1) (HWR.out.stays b3) HRK.out (by have := HN'.out; omega) (by decide) HBB.out HRR.out
              have hfl : ∀ W : World, (Instr.field 23 (.agg #[.int .i64 kq, .int .i64 (b : Int), .string sq]) 1).run Try.prog W = .ok (.int .i64 (b : Int)) W := fun _ => by kernel_rfl
              clear h30 b3 k1
              go_wp2_with (go_at_call 35; refine hdo.mono ?_; rintro e w4 ⟨rfl, ⟨m9, P9, hwq, hx9⟩, hf9⟩; refine Hid.out ?_)
              refine Lib.hid ?_
              have H9 := Lib.hid hwq
              have HX9 := Lib.hid hx9
              have HF9 := Lib.hid hf9
              clear hdo hfl hwq hx9 hf9
              go_wp2
              go_roundw
              case rel =>
                refine ⟨2, by omega, by go_num, ⟨N' + 3, m9, P9, by have := HN'.out; omega, H9.out, fun x h => ?_, fun x h => ?_⟩, (HFR.out.below HB3.out).step HF9.out (fun j e => .inl e), (bgo HBR.out HB3.out).trans (HF9.out.toBelow (fun q hq e => by have := HAB.out; omega) (Nat.le_trans HBR.out.size HB3.out.size))⟩
                · rcases (HX9.out x).1 h with q | rfl
                  · exact HP1.out x q
                  · exact ⟨1, b, by decide, HBB.out, HRR.out, rfl⟩
                · rcases (WtB.row HBB.out HRR.out x).1 h with q | q
                  · exact (HX9.out x).2 (.inl (HP2.out x q))
                  · exact (HX9.out x).2 (.inr q)
              case measure => simp [intOf]
          · rcases HRK.out 2 with hr | ⟨b, _, hb3, hr⟩
            · have HRR := Lib.hid hr
              have k1 : ((R 2).length : Int) = 0 := by rw [hr]; rfl
              clear hr
              go_wp2
              go_roundw
              case rel => exact ⟨3, by omega, by go_num, ⟨N', m', P', by have := HN'.out; omega, HWR.out, HP1.out, fun x h => HP2.out x ((WtB.nil HRR.out x).1 h)⟩, HFR.out, HBR.out⟩
              case measure => simp [intOf]
            · have HRR := Lib.hid hr
              have HBB := Lib.hid hb3
              have k1 : ¬ ((R 2).length : Int) = 0 := by rw [hr]; simp [rowC]
              have h30 : Calls Try.prog 30 #[.slice a2 (R 2).length p2, .int .i64 3] wr fun e w' => (∃ kq sq, e = .returned (.agg #[.int .i64 kq, .int .i64 (b : Int), .string sq])) ∧ Below wr.heap.size wr w' := by
                have q := of_any 3 wr (Lr.own (f := ceL) ceL_len (keep_rowB HO2.out HFR.out HT.out))
                rw [show ofP (R 2) 3 = nv b by rw [hr]; exact ofP_row 2 b] at q
                exact q.mono fun e w' h => ⟨⟨_, _, h.1⟩, h.2⟩
              clear hr hb3
              go_wp2_with (go_at_call 30; refine h30.mono ?_; rintro e w3 ⟨⟨kq, sq, rfl⟩, b3⟩; refine Hid.out ?_)
              refine Lib.hid ?_
              have HB3 := Lib.hid b3
              have hdo : Calls Try.prog 35 #[.pointer (some ⟨A, 0, none⟩), .agg #[.int .i64 2, .int .i64 (b : Int), .bool false, .bool false], .int .i64 2] w3 fun e X' => e = .returned (.tuple #[]) ∧ (∃ m9 P9, Wd X' A M (N' + 3) m9 R P9 ∧ ∀ x, P9 x ↔ (P' x ∨ x = entB 2 b)) ∧ Fr w3 X' (fun j => j = A ∨ j = M) := fill_do (i := 2) (HWR.out.stays b3) HRK.out (by have := HN'.out; omega) (by decide) HBB.out HRR.out
              have hfl : ∀ W : World, (Instr.field 23 (.agg #[.int .i64 kq, .int .i64 (b : Int), .string sq]) 1).run Try.prog W = .ok (.int .i64 (b : Int)) W := fun _ => by kernel_rfl
              clear h30 b3 k1
              go_wp2_with (go_at_call 35; refine hdo.mono ?_; rintro e w4 ⟨rfl, ⟨m9, P9, hwq, hx9⟩, hf9⟩; refine Hid.out ?_)
              refine Lib.hid ?_
              have H9 := Lib.hid hwq
              have HX9 := Lib.hid hx9
              have HF9 := Lib.hid hf9
              clear hdo hfl hwq hx9 hf9
              go_wp2
              go_roundw
              case rel =>
                refine ⟨3, by omega, by go_num, ⟨N' + 3, m9, P9, by have := HN'.out; omega, H9.out, fun x h => ?_, fun x h => ?_⟩, (HFR.out.below HB3.out).step HF9.out (fun j e => .inl e), (bgo HBR.out HB3.out).trans (HF9.out.toBelow (fun q hq e => by have := HAB.out; omega) (Nat.le_trans HBR.out.size HB3.out.size))⟩
                · rcases (HX9.out x).1 h with q | rfl
                  · exact HP1.out x q
                  · exact ⟨2, b, by decide, HBB.out, HRR.out, rfl⟩
                · rcases (WtB.row HBB.out HRR.out x).1 h with q | q
                  · exact (HX9.out x).2 (.inl (HP2.out x q))
                  · exact (HX9.out x).2 (.inr q)
              case measure => simp [intOf]
          · rcases HRK.out 3 with hr | ⟨b, _, hb3, hr⟩
            · have HRR := Lib.hid hr
              have k1 : ((R 3).length : Int) = 0 := by rw [hr]; rfl
              clear hr
              go_wp2
              go_roundw
              case rel => exact ⟨4, by omega, by go_num, ⟨N', m', P', by have := HN'.out; omega, HWR.out, HP1.out, fun x h => HP2.out x ((WtB.nil HRR.out x).1 h)⟩, HFR.out, HBR.out⟩
              case measure => simp [intOf]
            · have HRR := Lib.hid hr
              have HBB := Lib.hid hb3
              have k1 : ¬ ((R 3).length : Int) = 0 := by rw [hr]; simp [rowC]
              have h30 : Calls Try.prog 30 #[.slice a3 (R 3).length p3, .int .i64 3] wr fun e w' => (∃ kq sq, e = .returned (.agg #[.int .i64 kq, .int .i64 (b : Int), .string sq])) ∧ Below wr.heap.size wr w' := by
                have q := of_any 3 wr (Lr.own (f := ceL) ceL_len (keep_rowB HO3.out HFR.out HT.out))
                rw [show ofP (R 3) 3 = nv b by rw [hr]; exact ofP_row 3 b] at q
                exact q.mono fun e w' h => ⟨⟨_, _, h.1⟩, h.2⟩
              clear hr hb3
              go_wp2_with (go_at_call 30; refine h30.mono ?_; rintro e w3 ⟨⟨kq, sq, rfl⟩, b3⟩; refine Hid.out ?_)
              refine Lib.hid ?_
              have HB3 := Lib.hid b3
              have hdo : Calls Try.prog 35 #[.pointer (some ⟨A, 0, none⟩), .agg #[.int .i64 3, .int .i64 (b : Int), .bool false, .bool false], .int .i64 2] w3 fun e X' => e = .returned (.tuple #[]) ∧ (∃ m9 P9, Wd X' A M (N' + 3) m9 R P9 ∧ ∀ x, P9 x ↔ (P' x ∨ x = entB 3 b)) ∧ Fr w3 X' (fun j => j = A ∨ j = M) := fill_do (i := 3) (HWR.out.stays b3) HRK.out (by have := HN'.out; omega) (by decide) HBB.out HRR.out
              have hfl : ∀ W : World, (Instr.field 23 (.agg #[.int .i64 kq, .int .i64 (b : Int), .string sq]) 1).run Try.prog W = .ok (.int .i64 (b : Int)) W := fun _ => by kernel_rfl
              clear h30 b3 k1
              go_wp2_with (go_at_call 35; refine hdo.mono ?_; rintro e w4 ⟨rfl, ⟨m9, P9, hwq, hx9⟩, hf9⟩; refine Hid.out ?_)
              refine Lib.hid ?_
              have H9 := Lib.hid hwq
              have HX9 := Lib.hid hx9
              have HF9 := Lib.hid hf9
              clear hdo hfl hwq hx9 hf9
              go_wp2
              go_roundw
              case rel =>
                refine ⟨4, by omega, by go_num, ⟨N' + 3, m9, P9, by have := HN'.out; omega, H9.out, fun x h => ?_, fun x h => ?_⟩, (HFR.out.below HB3.out).step HF9.out (fun j e => .inl e), (bgo HBR.out HB3.out).trans (HF9.out.toBelow (fun q hq e => by have := HAB.out; omega) (Nat.le_trans HBR.out.size HB3.out.size))⟩
                · rcases (HX9.out x).1 h with q | rfl
                  · exact HP1.out x q
                  · exact ⟨3, b, by decide, HBB.out, HRR.out, rfl⟩
                · rcases (WtB.row HBB.out HRR.out x).1 h with q | q
                  · exact (HX9.out x).2 (.inl (HP2.out x q))
                  · exact (HX9.out x).2 (.inr q)
              case measure => simp [intOf]
          · go_upto_region 12 with fail
            refine wp_region_fb (fun _ X9 => Below wr.heap.size wr X9) (fun X9 X8 => Below X9.heap.size X9 X8) [
              fun v9 _ => v9 = .pointer (some ⟨A, 0, none⟩),
              fun v9 X9 => ∃ M2 N2 m2, v9 = .map (some M2) ∧ Es X9 M2 N2 m2 (WtB R 4),
              fun v9 _ => v9 = .pointer (some ⟨A, 0, none⟩),
              fun v9 _ => v9 = .pointer (some ⟨A, 0, none⟩),
              fun v9 _ => v9 = .pointer (some ⟨A, 4, none⟩),
              fun v9 _ => v9 = .map (some M),
              fun v9 _ => v9 = .bool true,
              fun v9 _ => v9 = .bool true,
              fun v9 _ => v9 = .pointer (some ⟨A, 0, none⟩),
              fun v9 _ => v9 = .pointer (some ⟨A, 0, none⟩),
              fun v9 _ => v9 = .pointer (some ⟨A, 4, none⟩),
              fun v9 _ => v9 = .map (some M),
              fun v9 _ => v9 = .pointer (some ⟨A, 0, none⟩),
              fun v9 X9 => ∃ M2 N2 m2, v9 = .map (some M2) ∧ Es X9 M2 N2 m2 (WtB R 4),
              fun v9 _ => v9 = .bool true,
              fun v9 _ => v9 = .bool true,
              fun v9 _ => v9 = .bool true]
              (by kernel_rfl) (by kernel_rfl) (by kernel_rfl) ?st ?g0 ?os ?en
            case st => exact ⟨fun _ _ _ _ h => h, (fun _ _ _ hb h => by obtain ⟨M2, N2, m2, e9, h9⟩ := h; exact ⟨M2, N2, m2, e9, h9.stays (hb.block M2 h9.lt)⟩), fun _ _ _ _ h => h, fun _ _ _ _ h => h, fun _ _ _ _ h => h, fun _ _ _ _ h => h, fun _ _ _ _ h => h, fun _ _ _ _ h => h, fun _ _ _ _ h => h, fun _ _ _ _ h => h, fun _ _ _ _ h => h, fun _ _ _ _ h => h, fun _ _ _ _ h => h, (fun _ _ _ hb h => by obtain ⟨M2, N2, m2, e9, h9⟩ := h; exact ⟨M2, N2, m2, e9, h9.stays (hb.block M2 h9.lt)⟩), fun _ _ _ _ h => h, fun _ _ _ _ h => h, fun _ _ _ _ h => h, trivial⟩
            case g0 => exact ⟨rfl, rfl, rfl, Nat.le_refl _, fun _ _ => rfl⟩
            case os =>
              refine ⟨?_, ?_, ?_, ?_, ?_, ?_, ?_, ?_, ?_, ?_, ?_, ?_, ?_, ?_, ?_, ?_, ?_, trivial⟩
              · exact fun ρ X9 fl hg hn hl hp ho hc hf hr => .inl ⟨rfl, Runs.val _ (op_move (show ρ (.tmp 5) = .pointer (some ⟨A, 0, none⟩) from ho 5 rfl)) ⟨hg, Below.refl _ _, rfl⟩⟩
              · intro ρ X9 fl hg hn hl hp ho hc hf hr
                refine .inl ⟨rfl, ?_⟩
                refine Runs.goes 34 #[.pointer (some ⟨A, 0, none⟩)] (op_call1 hf (by go_simp) (show ρ (.tmp 51) = .pointer (some ⟨A, 0, none⟩) from hr 0 51 rfl rfl)) ((wanted_any (HWR.out.stays hg) HRK.out).mono ?_)
                rintro e7 w7 ⟨M7, N7, m7, rfl, h7, b7⟩
                exact ⟨_, rfl, bgo hg b7, b7, M7, N7, m7, rfl, h7⟩
              · exact fun ρ X9 fl hg hn hl hp ho hc hf hr => .inl ⟨rfl, Runs.val _ (op_move (show ρ (.tmp 5) = .pointer (some ⟨A, 0, none⟩) from ho 5 rfl)) ⟨hg, Below.refl _ _, rfl⟩⟩
              · exact fun ρ X9 fl hg hn hl hp ho hc hf hr => .inl ⟨rfl, Runs.val _ (op_nil (show ρ (.tmp 53) = .pointer (some ⟨A, 0, none⟩) from hr 2 53 rfl rfl)) ⟨hg, Below.refl _ _, rfl⟩⟩
              · exact fun ρ X9 fl hg hn hl hp ho hc hf hr => .inl ⟨rfl, Runs.val _ (op_f65_1 (show ρ (.tmp 54) = .pointer (some ⟨A, 0, none⟩) from hr 3 54 rfl rfl)) ⟨hg, Below.refl _ _, rfl⟩⟩
              · exact fun ρ X9 fl hg hn hl hp ho hc hf hr => .inl ⟨rfl, Runs.val _ (op_load63 (show ρ (.tmp 55) = .pointer (some ⟨A, 4, none⟩) from hr 4 55 rfl rfl) ((HWR.out.stays hg).c4)) ⟨hg, Below.refl _ _, rfl⟩⟩
              · intro ρ X9 fl hg hn hl hp ho hc hf hr
                obtain ⟨M9, N9, m9, e9, h9⟩ : ∃ M2 N2 m2, ρ (.tmp 52) = .map (some M2) ∧ Es X9 M2 N2 m2 (WtB R 4) := hr 1 52 rfl rfl
                refine .inl ⟨rfl, ?_⟩
                refine Runs.goes 33 #[.map (some M9), .map (some M)] (op_call2 hf (by go_simp) e9 (show ρ (.tmp 56) = .map (some M) from hr 5 56 rfl rfl)) ((within_yes h9 (HWR.out.stays hg).es (fun x h => HP2.out x h)).mono ?_)
                rintro e7 w7 ⟨rfl, b7⟩
                exact ⟨_, rfl, bgo hg b7, b7, rfl⟩
              · exact fun ρ X9 fl hg hn hl hp ho hc hf hr => .inl ⟨rfl, Runs.val _ (op_move (show ρ (.tmp 57) = .bool true from hr 6 57 rfl rfl)) ⟨hg, Below.refl _ _, rfl⟩⟩
              · exact fun ρ X9 fl hg hn hl hp ho hc hf hr => .inr (.inl ⟨7, 58, true, fun _ => rfl, rfl, hr 7 58 rfl rfl, Runs.val _ (op_move (show ρ (.tmp 5) = .pointer (some ⟨A, 0, none⟩) from ho 5 rfl)) ⟨hg, Below.refl _ _, rfl⟩⟩)
              · exact fun ρ X9 fl hg hn hl hp ho hc hf hr => .inr (.inl ⟨7, 58, true, fun _ => rfl, rfl, hr 7 58 rfl rfl, Runs.val _ (op_nil (show ρ (.tmp 59) = .pointer (some ⟨A, 0, none⟩) from hr 8 59 rfl rfl)) ⟨hg, Below.refl _ _, rfl⟩⟩)
              · exact fun ρ X9 fl hg hn hl hp ho hc hf hr => .inr (.inl ⟨7, 58, true, fun _ => rfl, rfl, hr 7 58 rfl rfl, Runs.val _ (op_f65_1 (show ρ (.tmp 60) = .pointer (some ⟨A, 0, none⟩) from hr 9 60 rfl rfl)) ⟨hg, Below.refl _ _, rfl⟩⟩)
              · exact fun ρ X9 fl hg hn hl hp ho hc hf hr => .inr (.inl ⟨7, 58, true, fun _ => rfl, rfl, hr 7 58 rfl rfl, Runs.val _ (op_load63 (show ρ (.tmp 61) = .pointer (some ⟨A, 4, none⟩) from hr 10 61 rfl rfl) ((HWR.out.stays hg).c4)) ⟨hg, Below.refl _ _, rfl⟩⟩)
              · exact fun ρ X9 fl hg hn hl hp ho hc hf hr => .inr (.inl ⟨7, 58, true, fun _ => rfl, rfl, hr 7 58 rfl rfl, Runs.val _ (op_move (show ρ (.tmp 5) = .pointer (some ⟨A, 0, none⟩) from ho 5 rfl)) ⟨hg, Below.refl _ _, rfl⟩⟩)
              · intro ρ X9 fl hg hn hl hp ho hc hf hr
                refine .inr (.inl ⟨7, 58, true, fun _ => rfl, rfl, hr 7 58 rfl rfl, ?_⟩)
                refine Runs.goes 34 #[.pointer (some ⟨A, 0, none⟩)] (op_call1 hf (by go_simp) (show ρ (.tmp 63) = .pointer (some ⟨A, 0, none⟩) from hr 12 63 rfl rfl)) ((wanted_any (HWR.out.stays hg) HRK.out).mono ?_)
                rintro e7 w7 ⟨M7, N7, m7, rfl, h7, b7⟩
                exact ⟨_, rfl, bgo hg b7, b7, M7, N7, m7, rfl, h7⟩
              · intro ρ X9 fl hg hn hl hp ho hc hf hr
                obtain ⟨M9, N9, m9, e9, h9⟩ : ∃ M2 N2 m2, ρ (.tmp 64) = .map (some M2) ∧ Es X9 M2 N2 m2 (WtB R 4) := hr 13 64 rfl rfl
                refine .inr (.inl ⟨7, 58, true, fun _ => rfl, rfl, hr 7 58 rfl rfl, ?_⟩)
                refine Runs.goes 33 #[.map (some M), .map (some M9)] (op_call2 hf (by go_simp) (show ρ (.tmp 62) = .map (some M) from hr 11 62 rfl rfl) e9) ((within_yes (HWR.out.stays hg).es h9 (fun x h => HP1.out x h)).mono ?_)
                rintro e7 w7 ⟨rfl, b7⟩
                exact ⟨_, rfl, bgo hg b7, b7, rfl⟩
              · exact fun ρ X9 fl hg hn hl hp ho hc hf hr => .inl ⟨rfl, Runs.val _ (op_pick (show ρ (.tmp 58) = .bool true from hr 7 58 rfl rfl) (show ρ (.tmp 65) = .bool true from hr 14 65 rfl rfl)) ⟨hg, Below.refl _ _, rfl⟩⟩
              · exact fun ρ X9 fl hg hn hl hp ho hc hf hr => .inl ⟨rfl, Runs.val _ (op_assign (show ρ (.tmp 66) = .bool true from hr 15 66 rfl rfl)) ⟨hg, Below.refl _ _, rfl⟩⟩
            case en =>
              intro a9 w9 fl hfl b6 hs9 hd9 ho9 hr9
              obtain ⟨x9, hx, hxt⟩ := act_put hs9 hd9 ho9
              have x4 : x9 4 = .bool true := (hxt 4).symm.trans (hr9 16 4 rfl)
              change a9 = putAll _ x9 [51, 52, 53, 54, 55, 56, 57, 58, 59, 60, 61, 62, 63, 64, 65, 66, 4] at hx
              simp only [putAll, Act.put, List.setIfInBounds_toArray, List.set_cons_zero, List.set_cons_succ, x4] at hx
              subst hx
              clear hs9 hd9 ho9 hr9 hfl x4
              generalize x9 51 = z51, x9 52 = z52, x9 53 = z53, x9 54 = z54, x9 55 = z55, x9 56 = z56, x9 57 = z57, x9 58 = z58, x9 59 = z59, x9 60 = z60, x9 61 = z61, x9 62 = z62, x9 63 = z63, x9 64 = z64, x9 65 = z65, x9 66 = z66
              have HBE := Lib.hid (bgo HBR.out b6)
              clear b6
              go_wp2
              go_ret
              exact ⟨rfl, HBE.out⟩
end Go.Proofs.Ytbepekgaipipjaa
