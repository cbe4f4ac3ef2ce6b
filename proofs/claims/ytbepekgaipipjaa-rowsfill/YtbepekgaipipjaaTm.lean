/- The law RowsExact. -/
import Derived.Test.YtbepekgaipipjaaTl
namespace Go.Proofs.Ytbepekgaipipjaa
open Go.RowKit Go.Maps
theorem Wd.c4 {X : World} {A M N m : Nat} {R : Nat → List Ce} {P : ByteArray → Prop} (h : Wd X A M N m R P) : X.cell? ⟨A, 4, none⟩ = some (.map (some M)) := by
  obtain ⟨⟨s, j, _⟩, _⟩ := h
  exact cell_blk j 4
set_option maxHeartbeats 8000000 in
set_option maxRecDepth 100000 in
theorem exact_law {w : World} {La Lb : List Ch} {av bv : Value} (hA : Lr chE 4 w La av) (hB : Lr chE 4 w Lb bv) : Calls Try.prog 8 #[av, bv] w fun e w' => e = .returned (.bool true) ∧ Below w.heap.size w w' := by
  obtain ⟨ad, cap, rfl, hmxa⟩ := hA.len0
  obtain ⟨ad', cap', rfl, hmxb⟩ := hB.len0
  have HLA := Lib.hid hA
  have HLB := Lib.hid hB
  have haw := awake_any w
  clear hA hB
  by_cases g1 : 200 < La.length
  · have k1 : (200 : Int) < La.length := by omega
    go_enter Try.func8, Try.ntmps8
    go_wp2_with (go_at_call 10; refine haw.mono ?_; rintro e w1 ⟨rfl, b1⟩; refine Hid.out ?_)
    refine Lib.hid ?_
    have HB1 := Lib.hid b1
    have haw := awake_any w1
    clear b1
    go_wp2_with (go_at_call 10; refine haw.mono ?_; rintro e w2 ⟨rfl, b2⟩; refine Hid.out ?_)
    refine Lib.hid ?_
    have HB2 := Lib.hid (bgo HB1.out b2)
    clear haw b2
    go_wp2
    go_ret
    exact ⟨rfl, HB2.out⟩
  · have k1 : ¬ ((200 : Int) < La.length) := by omega
    by_cases g2 : 200 < Lb.length
    · have k2 : (200 : Int) < Lb.length := by omega
      go_enter Try.func8, Try.ntmps8
      go_wp2_with (go_at_call 10; refine haw.mono ?_; rintro e w1 ⟨rfl, b1⟩; refine Hid.out ?_)
      refine Lib.hid ?_
      have HB1 := Lib.hid b1
      have haw := awake_any w1
      clear b1
      go_wp2_with (go_at_call 10; refine haw.mono ?_; rintro e w2 ⟨rfl, b2⟩; refine Hid.out ?_)
      refine Lib.hid ?_
      have HB2 := Lib.hid (bgo HB1.out b2)
      clear haw b2
      go_wp2
      go_ret
      exact ⟨rfl, HB2.out⟩
    · have k2 : ¬ ((200 : Int) < Lb.length) := by omega
      have HG : Hid (La.length ≤ 200 ∧ Lb.length ≤ 200) := Lib.hid (by omega)
      go_enter Try.func8, Try.ntmps8
      go_wp2_with (go_at_call 10; refine haw.mono ?_; rintro e w1 ⟨rfl, b1⟩; refine Hid.out ?_)
      refine Lib.hid ?_
      have HB1 := Lib.hid b1
      have hpl := played_exact (HLA.out.on chE_held b1) (HLB.out.on chE_held b1) HG.out.1 HG.out.2
      clear haw b1
      go_upto_region 4 with (go_at_call 32; refine hpl.mono ?_; rintro e w2 ⟨A, M, N, rfl, hbd, b2⟩; refine Hid.out ?_)
      refine Lib.hid ?_
      have HB2 := Lib.hid (bgo HB1.out b2)
      obtain ⟨R, P, m, hR, hP, hw⟩ := hbd
      have HW2 := Lib.hid hw
      have HRK := Lib.hid hR
      have HPW := Lib.hid hP
      clear hpl b2 hw hR hP
      go_upto_region 4 with fail
      refine wp_region_fb (fun _ X9 => Below w2.heap.size w2 X9) (fun X9 X8 => Below X9.heap.size X9 X8) [
        fun v9 _ => v9 = .pointer (some ⟨A, 0, none⟩),
        fun v9 X9 => ∃ M2 N2 m2, v9 = .map (some M2) ∧ Es X9 M2 N2 m2 (WtB R 4),
        fun v9 _ => v9 = .pointer (some ⟨A, 0, none⟩),
        fun v9 _ => v9 = .pointer (some ⟨A, 0, none⟩),
        fun v9 _ => v9 = .pointer (some ⟨A, 4, none⟩),
        fun v9 _ => v9 = .map (some M),
        fun v9 _ => v9 = .bool true,
        fun v9 _ => v9 = .bool true,
        fun v9 _ => v9 = .pointer (some ⟨A, 0, none⟩),
        fun v9 _ => v9 = .pointer (some ⟨A, 0, none⟩),
        fun v9 _ => v9 = .pointer (some ⟨A, 4, none⟩),
        fun v9 _ => v9 = .map (some M),
        fun v9 _ => v9 = .pointer (some ⟨A, 0, none⟩),
        fun v9 X9 => ∃ M2 N2 m2, v9 = .map (some M2) ∧ Es X9 M2 N2 m2 (WtB R 4),
        fun v9 _ => v9 = .bool true,
        fun v9 _ => v9 = .bool true,
        fun v9 _ => v9 = .bool true]
        (by kernel_rfl) (by kernel_rfl) (by kernel_rfl) ?st ?g0 ?os ?en
      case st => exact ⟨fun _ _ _ _ h => h, (fun _ _ _ hb h => by obtain ⟨M2, N2, m2, e9, h9⟩ := h; exact ⟨M2, N2, m2, e9, h9.stays (hb.block M2 h9.lt)⟩), fun _ _ _ _ h => h, fun _ _ _ _ h => h, fun _ _ _ _ h => h, fun _ _ _ _ h => h, fun _ _ _ _ h => h, fun _ _ _ _ h => h, fun _ _ _ _ h => h, fun _ _ _ _ h => h, fun _ _ _ _ h => h, fun _ _ _ _ h => h, fun _ _ _ _ h => h, (fun _ _ _ hb h => by obtain ⟨M2, N2, m2, e9, h9⟩ := h; exact ⟨M2, N2, m2, e9, h9.stays (hb.block M2 h9.lt)⟩), fun _ _ _ _ h => h, fun _ _ _ _ h => h, fun _ _ _ _ h => h, trivial⟩
      case g0 => exact ⟨rfl, rfl, rfl, Nat.le_refl _, fun _ _ => rfl⟩
      case os =>
        refine ⟨?_, ?_, ?_, ?_, ?_, ?_, ?_, ?_, ?_, ?_, ?_, ?_, ?_, ?_, ?_, ?_, ?_, trivial⟩
        · exact fun ρ X9 fl hg hn hl hp ho hc hf hr => .inl ⟨rfl, Runs.val _ (op_move (show ρ (.tmp 5) = .pointer (some ⟨A, 0, none⟩) from ho 5 rfl)) ⟨hg, Below.refl _ _, rfl⟩⟩
        · intro ρ X9 fl hg hn hl hp ho hc hf hr
          refine .inl ⟨rfl, ?_⟩
          refine Runs.goes 34 #[.pointer (some ⟨A, 0, none⟩)] (op_call1 hf (by go_simp) (show ρ (.tmp 22) = .pointer (some ⟨A, 0, none⟩) from hr 0 22 rfl rfl)) ((wanted_any (HW2.out.stays hg) HRK.out).mono ?_)
          rintro e7 w7 ⟨M7, N7, m7, rfl, h7, b7⟩
          exact ⟨_, rfl, bgo hg b7, b7, M7, N7, m7, rfl, h7⟩
        · exact fun ρ X9 fl hg hn hl hp ho hc hf hr => .inl ⟨rfl, Runs.val _ (op_move (show ρ (.tmp 5) = .pointer (some ⟨A, 0, none⟩) from ho 5 rfl)) ⟨hg, Below.refl _ _, rfl⟩⟩
        · exact fun ρ X9 fl hg hn hl hp ho hc hf hr => .inl ⟨rfl, Runs.val _ (op_nil (show ρ (.tmp 24) = .pointer (some ⟨A, 0, none⟩) from hr 2 24 rfl rfl)) ⟨hg, Below.refl _ _, rfl⟩⟩
        · exact fun ρ X9 fl hg hn hl hp ho hc hf hr => .inl ⟨rfl, Runs.val _ (op_f65_1 (show ρ (.tmp 25) = .pointer (some ⟨A, 0, none⟩) from hr 3 25 rfl rfl)) ⟨hg, Below.refl _ _, rfl⟩⟩
        · exact fun ρ X9 fl hg hn hl hp ho hc hf hr => .inl ⟨rfl, Runs.val _ (op_load63 (show ρ (.tmp 26) = .pointer (some ⟨A, 4, none⟩) from hr 4 26 rfl rfl) ((HW2.out.stays hg).c4)) ⟨hg, Below.refl _ _, rfl⟩⟩
        · intro ρ X9 fl hg hn hl hp ho hc hf hr
          obtain ⟨M9, N9, m9, e9, h9⟩ : ∃ M2 N2 m2, ρ (.tmp 23) = .map (some M2) ∧ Es X9 M2 N2 m2 (WtB R 4) := hr 1 23 rfl rfl
          refine .inl ⟨rfl, ?_⟩
          refine Runs.goes 33 #[.map (some M9), .map (some M)] (op_call2 hf (by go_simp) e9 (show ρ (.tmp 27) = .map (some M) from hr 5 27 rfl rfl)) ((within_yes h9 (HW2.out.stays hg).es (fun x h => (HPW.out x).2 h)).mono ?_)
          rintro e7 w7 ⟨rfl, b7⟩
          exact ⟨_, rfl, bgo hg b7, b7, rfl⟩
        · exact fun ρ X9 fl hg hn hl hp ho hc hf hr => .inl ⟨rfl, Runs.val _ (op_move (show ρ (.tmp 28) = .bool true from hr 6 28 rfl rfl)) ⟨hg, Below.refl _ _, rfl⟩⟩
        · exact fun ρ X9 fl hg hn hl hp ho hc hf hr => .inr (.inl ⟨7, 29, true, fun _ => rfl, rfl, hr 7 29 rfl rfl, Runs.val _ (op_move (show ρ (.tmp 5) = .pointer (some ⟨A, 0, none⟩) from ho 5 rfl)) ⟨hg, Below.refl _ _, rfl⟩⟩)
        · exact fun ρ X9 fl hg hn hl hp ho hc hf hr => .inr (.inl ⟨7, 29, true, fun _ => rfl, rfl, hr 7 29 rfl rfl, Runs.val _ (op_nil (show ρ (.tmp 30) = .pointer (some ⟨A, 0, none⟩) from hr 8 30 rfl rfl)) ⟨hg, Below.refl _ _, rfl⟩⟩)
        · exact fun ρ X9 fl hg hn hl hp ho hc hf hr => .inr (.inl ⟨7, 29, true, fun _ => rfl, rfl, hr 7 29 rfl rfl, Runs.val _ (op_f65_1 (show ρ (.tmp 31) = .pointer (some ⟨A, 0, none⟩) from hr 9 31 rfl rfl)) ⟨hg, Below.refl _ _, rfl⟩⟩)
        · exact fun ρ X9 fl hg hn hl hp ho hc hf hr => .inr (.inl ⟨7, 29, true, fun _ => rfl, rfl, hr 7 29 rfl rfl, Runs.val _ (op_load63 (show ρ (.tmp 32) = .pointer (some ⟨A, 4, none⟩) from hr 10 32 rfl rfl) ((HW2.out.stays hg).c4)) ⟨hg, Below.refl _ _, rfl⟩⟩)
        · exact fun ρ X9 fl hg hn hl hp ho hc hf hr => .inr (.inl ⟨7, 29, true, fun _ => rfl, rfl, hr 7 29 rfl rfl, Runs.val _ (op_move (show ρ (.tmp 5) = .pointer (some ⟨A, 0, none⟩) from ho 5 rfl)) ⟨hg, Below.refl _ _, rfl⟩⟩)
        · intro ρ X9 fl hg hn hl hp ho hc hf hr
          refine .inr (.inl ⟨7, 29, true, fun _ => rfl, rfl, hr 7 29 rfl rfl, ?_⟩)
          refine Runs.goes 34 #[.pointer (some ⟨A, 0, none⟩)] (op_call1 hf (by go_simp) (show ρ (.tmp 34) = .pointer (some ⟨A, 0, none⟩) from hr 12 34 rfl rfl)) ((wanted_any (HW2.out.stays hg) HRK.out).mono ?_)
          rintro e7 w7 ⟨M7, N7, m7, rfl, h7, b7⟩
          exact ⟨_, rfl, bgo hg b7, b7, M7, N7, m7, rfl, h7⟩
        · intro ρ X9 fl hg hn hl hp ho hc hf hr
          obtain ⟨M9, N9, m9, e9, h9⟩ : ∃ M2 N2 m2, ρ (.tmp 35) = .map (some M2) ∧ Es X9 M2 N2 m2 (WtB R 4) := hr 13 35 rfl rfl
          refine .inr (.inl ⟨7, 29, true, fun _ => rfl, rfl, hr 7 29 rfl rfl, ?_⟩)
          refine Runs.goes 33 #[.map (some M), .map (some M9)] (op_call2 hf (by go_simp) (show ρ (.tmp 33) = .map (some M) from hr 11 33 rfl rfl) e9) ((within_yes (HW2.out.stays hg).es h9 (fun x h => (HPW.out x).1 h)).mono ?_)
          rintro e7 w7 ⟨rfl, b7⟩
          exact ⟨_, rfl, bgo hg b7, b7, rfl⟩
        · exact fun ρ X9 fl hg hn hl hp ho hc hf hr => .inl ⟨rfl, Runs.val _ (op_pick (show ρ (.tmp 29) = .bool true from hr 7 29 rfl rfl) (show ρ (.tmp 36) = .bool true from hr 14 36 rfl rfl)) ⟨hg, Below.refl _ _, rfl⟩⟩
        · exact fun ρ X9 fl hg hn hl hp ho hc hf hr => .inl ⟨rfl, Runs.val _ (op_assign (show ρ (.tmp 37) = .bool true from hr 15 37 rfl rfl)) ⟨hg, Below.refl _ _, rfl⟩⟩
      case en =>
        intro a9 w6 fl hfl b6 hs9 hd9 ho9 hr9
        obtain ⟨x9, hx, hxt⟩ := act_put hs9 hd9 ho9
        have x4 : x9 4 = .bool true := (hxt 4).symm.trans (hr9 16 4 rfl)
        change a9 = putAll _ x9 [22, 23, 24, 25, 26, 27, 28, 29, 30, 31, 32, 33, 34, 35, 36, 37, 4] at hx
        simp only [putAll, Act.put, List.setIfInBounds_toArray, List.set_cons_zero, List.set_cons_succ, x4] at hx
        subst hx
        clear hs9 hd9 ho9 hr9 hfl x4
        generalize x9 22 = z22, x9 23 = z23, x9 24 = z24, x9 25 = z25, x9 26 = z26, x9 27 = z27, x9 28 = z28, x9 29 = z29, x9 30 = z30, x9 31 = z31, x9 32 = z32, x9 33 = z33, x9 34 = z34, x9 35 = z35, x9 36 = z36, x9 37 = z37
        have HB6 := Lib.hid (bgo HB2.out b6)
        clear b6
        go_wp2
        go_ret
        exact ⟨rfl, HB6.out⟩
end Go.Proofs.Ytbepekgaipipjaa
