import Derived.Test.YtkfnphhoebknnaaQRf
import Derived.Test.YtkfnphhoebknnaaQNe
import Derived.Test.YtkfnphhoebknnaaQSc
namespace Go.Proofs.Ytkfnphhoebknnaa
open Go.RowKit
section
variable {w : World}
set_option maxHeartbeats 16000000 in
set_option maxRecDepth 100000 in
theorem turn_one {s : Sc} {tv : Value} {d : Dd} {st : Int} {da : Option Addr} {dc : Nat} (hL : Lr tbE 5 w s.tabs tv) (hd : Lr colE 7 w d.cols (.slice da d.cols.length dc)) (hz : d.cols.length ≤ 1000000) (hk1 : d.kind = 1) : Calls Try.prog 14 #[scV s tv, .agg #[.int .i64 d.kind, .string d.table, .string d.name, .string d.column, .string d.parent, .bool d.uq, .int .i64 d.ty, .int .i64 d.df.k, .int .i64 d.df.n, .string d.df.s, .slice da d.cols.length dc], .int .i64 st] w (TuAns w (turnS s d st)) := by
  obtain ⟨ta, tc, rfl, hr0⟩ := hL
  have hL : Lr tbE 5 w s.tabs (.slice ta s.tabs.length tc) := ⟨ta, tc, rfl, hr0⟩
  obtain ⟨kd, hkd⟩ : ∃ kd, d.kind = kd := ⟨_, rfl⟩
  rw [hkd]
  obtain ⟨W, hW⟩ : ∃ W, W = ((w.alloc (.cells #[.int .i64 s.ver, .int .i64 s.last, .slice ta s.tabs.length tc] 24)).alloc (.cells #[.int .i64 kd, .string d.table, .string d.name, .string d.column, .string d.parent, .bool d.uq, .int .i64 d.ty, .int .i64 d.df.k, .int .i64 d.df.n, .string d.df.s, .slice da d.cols.length dc] 44)).alloc (.cells #[.int .i64 0, .int .i64 0, .slice none 0 0] 24) := ⟨_, rfl⟩
  have hbW : Below w.heap.size w W := by rw [hW]; exact (((Below.refl _ w).alloc (Nat.le_refl _) _).alloc (by simp) _).alloc (by simp only [World.size_alloc]; omega) _
  obtain ⟨Y0, hY0⟩ : ∃ Y0, w.heap.size = Y0 := ⟨_, rfl⟩
  obtain ⟨Y1, hY1⟩ : ∃ Y1, Y0 + 1 = Y1 := ⟨_, rfl⟩
  obtain ⟨Y2, hY2⟩ : ∃ Y2, Y1 + 1 = Y2 := ⟨_, rfl⟩
  have j0 : W.heap[Y0]? = some (.cells #[.int .i64 s.ver, .int .i64 s.last, .slice ta s.tabs.length tc] 24 (0, 0)) := by
    have := heap_alloc_new w (.cells #[.int .i64 s.ver, .int .i64 s.last, .slice ta s.tabs.length tc] 24)
    rw [hW, ← hY0, Below.heap_alloc _ _ _ (by simp only [World.size_alloc]; omega), Below.heap_alloc _ _ _ (by simp only [World.size_alloc]; omega)]
    exact this
  have j1 : W.heap[Y1]? = some (.cells #[.int .i64 kd, .string d.table, .string d.name, .string d.column, .string d.parent, .bool d.uq, .int .i64 d.ty, .int .i64 d.df.k, .int .i64 d.df.n, .string d.df.s, .slice da d.cols.length dc] 44 (0, 0)) := by
    have := heap_alloc_new (w.alloc (.cells #[.int .i64 s.ver, .int .i64 s.last, .slice ta s.tabs.length tc] 24)) (.cells #[.int .i64 kd, .string d.table, .string d.name, .string d.column, .string d.parent, .bool d.uq, .int .i64 d.ty, .int .i64 d.df.k, .int .i64 d.df.n, .string d.df.s, .slice da d.cols.length dc] 44)
    simp only [World.size_alloc] at this
    rw [hW, ← hY1, ← hY0, Below.heap_alloc _ _ _ (by simp only [World.size_alloc]; omega)]
    exact this
  have j2 : W.heap[Y2]? = some (.cells #[.int .i64 0, .int .i64 0, .slice none 0 0] 24 (0, 0)) := by
    have := heap_alloc_new ((w.alloc (.cells #[.int .i64 s.ver, .int .i64 s.last, .slice ta s.tabs.length tc] 24)).alloc (.cells #[.int .i64 kd, .string d.table, .string d.name, .string d.column, .string d.parent, .bool d.uq, .int .i64 d.ty, .int .i64 d.df.k, .int .i64 d.df.n, .string d.df.s, .slice da d.cols.length dc] 44)) (.cells #[.int .i64 0, .int .i64 0, .slice none 0 0] 24)
    simp only [World.size_alloc] at this
    rw [hW, ← hY2, ← hY1, ← hY0]
    exact this
  have GE : Hid (w.heap.size ≤ Y0 ∧ w.heap.size ≤ Y2 ∧ Y0 ≠ Y2 ∧ Y0 < W.heap.size ∧ Y1 < W.heap.size ∧ Y2 < W.heap.size) := Lib.hid ⟨by omega, by omega, by omega, blk_lt j0, blk_lt j1, blk_lt j2⟩
  have hrt := right_ref (hL.on tbE_held hbW)
  have hld0 := load_row j0 Try.underlying24 rfl size24
  have HB := Lib.hid hbW
  have HLW := Lib.hid (hL.on tbE_held hbW)
  have HC := Lib.hid (hd.on colE_held hbW)
  have HW := Lib.hid hW
  have J0 := Lib.hid j0
  have J1 := Lib.hid j1
  have J2 := Lib.hid j2
  have HY0 := Lib.hid hY0
  have HY1 := Lib.hid hY1
  have HY2 := Lib.hid hY2
  have HZ := Lib.hid hz
  have HKD := Lib.hid hkd
  have HK11 : Hid (kd = 1) := Lib.hid (hkd.symm.trans hk1)
  clear hk1
  obtain ⟨rb, hrb⟩ : ∃ rb, rightS s = rb := ⟨_, rfl⟩
  rw [hrb] at hrt
  have HRB := Lib.hid hrb
  clear hW hbW hY0 hY1 hY2 j0 j1 j2 hL hr0 hd hz hkd hrb
  go_enter Try.func14, Try.ntmps14
  go_upto_region 1 with fail
  rw [← HW.out, HY0.out, HY1.out, HY2.out]
  cases rb with
  | false =>
    go_upto_region 2 with (first | (go_at_call 12; refine hrt.mono ?_; rintro e w1 ⟨rfl, b1⟩; refine Hid.out ?_) | (refine wpl_load _ rfl (by first | rfl | (simp [Act.eval]; done)) hld0 ?_))
    refine Lib.hid ?_
    clear hrt hld0
    have HR : Hid (turnS s d st = .error 100) := Lib.hid (by
      unfold turnS
      rw [if_pos (.inl HRB.out)])
    have i2 := (b1.block Y2 (blk_lt J2.out)).trans J2.out
    obtain ⟨X4, e44, j4, f4⟩ := sets_row i2 (#[.int .i64 0, .int .i64 0, .slice none 0 0]) rfl
    have hst : (Instr.storeAt 24 (.pointer (some ⟨Y2, 0, none⟩)) (.agg #[.int .i64 0, .int .i64 0, .slice none 0 0])).run Try.prog w1 = .ok () X4 := by
      rw [e44]
      exact store_row i2 rfl size24 (by simp [Value.oneCell'])
    have J4 := Lib.hid j4
    have hbv := bgo HB.out b1
    have HE : Hid (Below w.heap.size w X4) := Lib.hid (hbv.trans (f4.toBelow (fun k9 hk9 q9 => by have := GE.out; omega) hbv.size))
    clear e44 j4 f4 i2 hbv
    go_wp2_with (refine wpl_store _ _ rfl (by first | rfl | (simp [Act.eval]; done)) (by first | rfl | (simp [Act.eval]; done)) hst ?_)
    refine bodyPost_ret (results_two rfl rfl rfl (load_var J4.out Try.underlying24 rfl size24)) rfl ?_
    rw [HR.out]
    exact ⟨rfl, by decide, HE.out⟩
  | true =>
    by_cases v1 : st < 0
    · have g1 : decide (st < 0) = true := decide_eq_true v1
      go_upto_region 2 with (first | (go_at_call 12; refine hrt.mono ?_; rintro e w1 ⟨rfl, b1⟩; refine Hid.out ?_) | (refine wpl_load _ rfl (by first | rfl | (simp [Act.eval]; done)) hld0 ?_))
      refine Lib.hid ?_
      clear hrt hld0
      have HR : Hid (turnS s d st = .error 100) := Lib.hid (by
        unfold turnS
        rw [if_pos (.inr (.inl v1))])
      have i2 := (b1.block Y2 (blk_lt J2.out)).trans J2.out
      obtain ⟨X4, e44, j4, f4⟩ := sets_row i2 (#[.int .i64 0, .int .i64 0, .slice none 0 0]) rfl
      have hst : (Instr.storeAt 24 (.pointer (some ⟨Y2, 0, none⟩)) (.agg #[.int .i64 0, .int .i64 0, .slice none 0 0])).run Try.prog w1 = .ok () X4 := by
        rw [e44]
        exact store_row i2 rfl size24 (by simp [Value.oneCell'])
      have J4 := Lib.hid j4
      have hbv := bgo HB.out b1
      have HE : Hid (Below w.heap.size w X4) := Lib.hid (hbv.trans (f4.toBelow (fun k9 hk9 q9 => by have := GE.out; omega) hbv.size))
      clear e44 j4 f4 i2 hbv
      go_wp2_with (refine wpl_store _ _ rfl (by first | rfl | (simp [Act.eval]; done)) (by first | rfl | (simp [Act.eval]; done)) hst ?_)
      refine bodyPost_ret (results_two rfl rfl rfl (load_var J4.out Try.underlying24 rfl size24)) rfl ?_
      rw [HR.out]
      exact ⟨rfl, by decide, HE.out⟩
    have g1 : decide (st < 0) = false := decide_eq_false v1
    by_cases v2 : 3 < st
    · have g2 : decide (3 < st) = true := decide_eq_true v2
      go_upto_region 2 with (first | (go_at_call 12; refine hrt.mono ?_; rintro e w1 ⟨rfl, b1⟩; refine Hid.out ?_) | (refine wpl_load _ rfl (by first | rfl | (simp [Act.eval]; done)) hld0 ?_))
      refine Lib.hid ?_
      clear hrt hld0
      have HR : Hid (turnS s d st = .error 100) := Lib.hid (by
        unfold turnS
        rw [if_pos (.inr (.inr v2))])
      have i2 := (b1.block Y2 (blk_lt J2.out)).trans J2.out
      obtain ⟨X4, e44, j4, f4⟩ := sets_row i2 (#[.int .i64 0, .int .i64 0, .slice none 0 0]) rfl
      have hst : (Instr.storeAt 24 (.pointer (some ⟨Y2, 0, none⟩)) (.agg #[.int .i64 0, .int .i64 0, .slice none 0 0])).run Try.prog w1 = .ok () X4 := by
        rw [e44]
        exact store_row i2 rfl size24 (by simp [Value.oneCell'])
      have J4 := Lib.hid j4
      have hbv := bgo HB.out b1
      have HE : Hid (Below w.heap.size w X4) := Lib.hid (hbv.trans (f4.toBelow (fun k9 hk9 q9 => by have := GE.out; omega) hbv.size))
      clear e44 j4 f4 i2 hbv
      go_wp2_with (refine wpl_store _ _ rfl (by first | rfl | (simp [Act.eval]; done)) (by first | rfl | (simp [Act.eval]; done)) hst ?_)
      refine bodyPost_ret (results_two rfl rfl rfl (load_var J4.out Try.underlying24 rfl size24)) rfl ?_
      rw [HR.out]
      exact ⟨rfl, by decide, HE.out⟩
    have g2 : decide (3 < st) = false := decide_eq_false v2
    have HTU : Hid (turnS s d st = changeS s d st) := Lib.hid (by
      unfold turnS
      rw [if_neg (by rw [HRB.out]; simp; omega)])
    go_upto_region 3 with (first | (go_at_call 12; refine hrt.mono ?_; rintro e w1 ⟨rfl, b1⟩; refine Hid.out ?_) | (refine wpl_load _ rfl (by first | rfl | (simp [Act.eval]; done)) hld0 ?_))
    refine Lib.hid ?_
    clear hrt hld0
    go_upto_region 3 with fail
    clear g1 g2 v1 v2
    have B1 := Lib.hid b1
    clear b1
    have i0 := (B1.out.block Y0 (blk_lt J0.out)).trans J0.out
    have i1 := (B1.out.block Y1 (blk_lt J1.out)).trans J1.out
    have e0 : w1.cell? ⟨Y1, 0, none⟩ = some (.int .i64 kd) := cell_blk i1 0
    have hld0 := load_row i0 Try.underlying24 rfl size24
    have I1 := Lib.hid i1
    clear i0 i1
    by_cases v1 : kd < 1
    · have g1 : decide (kd < 1) = true := decide_eq_true v1
      have HR : Hid (turnS s d st = .error 1) := Lib.hid (by
        unfold turnS
        have h9 := HTU.out
        unfold turnS at h9
        rw [h9]
        unfold changeS
        rw [if_pos (by rw [HKD.out]; exact .inl v1)])
      have i2 := (B1.out.block Y2 (blk_lt J2.out)).trans J2.out
      obtain ⟨X4, e44, j4, f4⟩ := sets_row i2 (#[.int .i64 0, .int .i64 0, .slice none 0 0]) rfl
      have hst : (Instr.storeAt 24 (.pointer (some ⟨Y2, 0, none⟩)) (.agg #[.int .i64 0, .int .i64 0, .slice none 0 0])).run Try.prog w1 = .ok () X4 := by
        rw [e44]
        exact store_row i2 rfl size24 (by simp [Value.oneCell'])
      have J4 := Lib.hid j4
      have hbv := bgo HB.out B1.out
      have HE : Hid (Below w.heap.size w X4) := Lib.hid (hbv.trans (f4.toBelow (fun k9 hk9 q9 => by have := GE.out; omega) hbv.size))
      clear e44 j4 f4 i2 hbv
      go_upto_region 4 with fail
      go_wp2_with (refine wpl_store _ _ rfl (by first | rfl | (simp [Act.eval]; done)) (by first | rfl | (simp [Act.eval]; done)) hst ?_)
      refine bodyPost_ret (results_two rfl rfl rfl (load_var J4.out Try.underlying24 rfl size24)) rfl ?_
      rw [HR.out]
      exact ⟨rfl, by decide, HE.out⟩
    have g1 : decide (kd < 1) = false := decide_eq_false v1
    by_cases v2 : 7 < kd
    · have g2 : decide (7 < kd) = true := decide_eq_true v2
      have HR : Hid (turnS s d st = .error 1) := Lib.hid (by
        unfold turnS
        have h9 := HTU.out
        unfold turnS at h9
        rw [h9]
        unfold changeS
        rw [if_pos (by rw [HKD.out]; exact .inr v2)])
      have i2 := (B1.out.block Y2 (blk_lt J2.out)).trans J2.out
      obtain ⟨X4, e44, j4, f4⟩ := sets_row i2 (#[.int .i64 0, .int .i64 0, .slice none 0 0]) rfl
      have hst : (Instr.storeAt 24 (.pointer (some ⟨Y2, 0, none⟩)) (.agg #[.int .i64 0, .int .i64 0, .slice none 0 0])).run Try.prog w1 = .ok () X4 := by
        rw [e44]
        exact store_row i2 rfl size24 (by simp [Value.oneCell'])
      have J4 := Lib.hid j4
      have hbv := bgo HB.out B1.out
      have HE : Hid (Below w.heap.size w X4) := Lib.hid (hbv.trans (f4.toBelow (fun k9 hk9 q9 => by have := GE.out; omega) hbv.size))
      clear e44 j4 f4 i2 hbv
      go_upto_region 4 with fail
      go_wp2_with (refine wpl_store _ _ rfl (by first | rfl | (simp [Act.eval]; done)) (by first | rfl | (simp [Act.eval]; done)) hst ?_)
      refine bodyPost_ret (results_two rfl rfl rfl (load_var J4.out Try.underlying24 rfl size24)) rfl ?_
      rw [HR.out]
      exact ⟨rfl, by decide, HE.out⟩
    have g2 : decide (7 < kd) = false := decide_eq_false v2
    have HKR : Hid (¬ (d.kind < 1 ∨ 7 < d.kind)) := Lib.hid (by rw [HKD.out]; omega)
    have hrp := right_parts HRB.out
    have hri := right_iff.1 HRB.out
    have hfew : Few s.tabs := ⟨by have := hrp.2.2.1; omega, fun t ht => (tab_few (hrp.2.2.2 t ht)).1⟩
    have HRI : Hid ((0 ≤ s.ver ∧ s.ver ≤ 1125899906842624) ∧ farB s.last = true ∧ s.tabs.length ≤ 6 ∧ ∀ t ∈ s.tabs, tabB t = true) := Lib.hid ⟨far_in hri.1, hri.2.1, hri.2.2.1, hri.2.2.2.1⟩
    have hcp := copy_any (HLW.out.on tbE_held B1.out) hfew
    clear hrp hri hfew
    go_upto_region 5 with fail
    clear g1 g2 v1 v2 e0
    go_upto_region 6 with (first | (go_at_call 30; refine hcp.mono ?_; rintro e w2 ⟨G, tv', rfl, hG, hD, b2⟩; refine Hid.out ?_) | (refine wpl_load _ rfl (by first | rfl | (simp [Act.eval]; done)) hld0 ?_))
    refine Lib.hid ?_
    clear hcp hld0
    obtain ⟨tad, tcap, hsh⟩ := own_shape hD.row
    subst hsh
    have HB2 := Lib.hid (bgo B1.out b2)
    have HG := Lib.hid hG
    obtain ⟨V1, hV1⟩ : ∃ V1, V1 = w2.alloc (.cells #[.int .i64 s.ver, .int .i64 s.last, .slice tad G.length tcap] 24) := ⟨_, rfl⟩
    obtain ⟨P, hP⟩ : ∃ P, w2.heap.size = P := ⟨_, rfl⟩
    have jP : V1.heap[P]? = some (.cells #[.int .i64 s.ver, .int .i64 s.last, .slice tad G.length tcap] 24 (0, 0)) := by rw [hV1, ← hP]; exact heap_alloc_new w2 _
    have bV : Below w2.heap.size w2 V1 := by rw [hV1]; exact bnew _ _
    have HV1 := Lib.hid hV1
    have HPP := Lib.hid hP
    have hD1 := hD.below bV
    have hB1 := bgo HB2.out bV
    obtain ⟨V2, hV2⟩ : ∃ V2, V2 = V1.setCell ⟨P, 0, none⟩ (.int .i64 (s.ver + 1)) := ⟨_, rfl⟩
    have jP2 : V2.heap[P]? = some (.cells #[.int .i64 (s.ver + 1), .int .i64 s.last, .slice tad G.length tcap] 24 (0, 0)) := by rw [hV2]; exact set_blk jP _
    have fV2 : Fr V1 V2 (fun k9 => k9 = P) := by rw [hV2]; exact Fr.set (S := fun k9 => k9 = P) (a := ⟨P, 0, none⟩) (Fr.refl _ _) (.inl rfl) _
    have HDV : Hid (Dr V2 w1.heap.size G (.slice tad G.length tcap)) := Lib.hid (hD1.keep fV2 (fun k9 hk9 => .inr (fun cs e tg => by
      rw [hk9, jP] at tg
      simp only [Option.some.injEq, Obj.cells.injEq] at tg
      rw [← tg.2.1]
      decide)))
    have HPW : Hid (W.heap.size ≤ P ∧ w1.heap.size ≤ V2.heap.size ∧ W.heap.size ≤ w1.heap.size ∧ w1.heap.size ≤ P) := Lib.hid ⟨by have := HB2.out.size; omega, by have := b2.size; have := bV.size; have := fV2.size; omega, B1.out.size, by have := b2.size; omega⟩
    have HBV : Hid (Below W.heap.size W V2) := Lib.hid (hB1.trans (fV2.toBelow (fun k9 hk9 q9 => by have := HPW.out; omega) hB1.size))
    have HV2 := Lib.hid hV2
    have JP := Lib.hid jP2
    have K1 := Lib.hid ((HBV.out.block Y1 (blk_lt J1.out)).trans J1.out)
    have HCV := Lib.hid (HC.out.on colE_held HBV.out)
    have x0 : V1.cell? ⟨P, 0, none⟩ = some (.int .i64 s.ver) := cell_blk jP 0
    have f0 : V1.frozen? ⟨P, 0, none⟩ = false := frozen_blk jP 0
    have z1 : -9223372036854775808 ≤ s.ver + 1 := by have := HRI.out.1; omega
    have z2 : s.ver + 1 ≤ 9223372036854775807 := by have := HRI.out.1; omega
    clear hG hD b2 hV1 hP jP bV hD1 hB1 hV2 jP2 fV2
    go_upto_region 6 with fail
    rw [← HV1.out, HPP.out]
    go_upto_region 7 with fail
    rw [← HV2.out]
    clear x0 f0 z1 z2
    have x0 : V2.cell? ⟨P, 0, none⟩ = some (.int .i64 (s.ver + 1)) := cell_blk JP.out 0
    have x1 : V2.cell? ⟨P, 1, none⟩ = some (.int .i64 s.last) := cell_blk JP.out 1
    have x2 : V2.cell? ⟨P, 2, none⟩ = some (.slice tad G.length tcap) := cell_blk JP.out 2
    have e1 : V2.cell? ⟨Y1, 1, none⟩ = some (.string d.table) := cell_blk K1.out 1
    have hat := tabAt_any (w := V2) (s := ⟨s.ver + 1, s.last, s.tabs⟩) (tv := .slice tad G.length tcap) (by have := HDV.out.reads; rw [HG.out] at this; exact this) d.table
    change Calls Try.prog 22 #[.agg #[.int .i64 (s.ver + 1), .int .i64 s.last, .slice tad G.length tcap], .string d.table] V2 (fun e w' => e = .returned (.int .i64 (fidx (fun x => decide (x.nm = d.table)) s.tabs)) ∧ Below V2.heap.size V2 w') at hat
    obtain ⟨fx, hfx⟩ : ∃ fx, fidx (fun x => decide (x.nm = d.table)) s.tabs = fx := ⟨_, rfl⟩
    rw [hfx] at hat
    have HFX := Lib.hid hfx
    clear hfx
    go_upto_region 10 with (go_at_call 22; refine hat.mono ?_; rintro e w3 ⟨rfl, b3⟩; refine Hid.out ?_)
    refine Lib.hid ?_
    go_upto_region 10 with fail
    clear hat x0 x1 x2 e1
    have M1 := Lib.hid ((b3.block Y1 (blk_lt K1.out)).trans K1.out)
    have MP := Lib.hid ((b3.block P (blk_lt JP.out)).trans JP.out)
    have HD3 := Lib.hid (HDV.out.below b3)
    have HC3 := Lib.hid (HCV.out.on colE_held b3)
    have HB3 := Lib.hid (bgo HBV.out b3)
    have HS3 : Hid (w1.heap.size ≤ w3.heap.size ∧ W.heap.size ≤ w1.heap.size) := Lib.hid ⟨by have := HPW.out; have := b3.size; omega, HPW.out.2.2.1⟩
    have e0 : w3.cell? ⟨Y1, 0, none⟩ = some (.int .i64 kd) := cell_blk M1.out 0
    have hldP := load_row MP.out Try.underlying24 rfl size24
    have hldD : (Instr.loadAt 44 (.pointer (some ⟨Y1, 0, none⟩))).run Try.prog w3 = .ok (.agg #[.int .i64 kd, .string d.table, .string d.name, .string d.column, .string d.parent, .bool d.uq, .int .i64 d.ty, .int .i64 d.df.k, .int .i64 d.df.n, .string d.df.s, .slice da d.cols.length dc]) w3 := load_row M1.out Try.underlying44 rfl size44
    clear b3
    have HTC := HTU
    clear HTU
    by_cases v1 : kd = 1
    · skip
      have HK1 := Lib.hid v1
      have g1 : (kd == 1) = true := by simpa using v1
      clear v1
      have hcl := create_ref (kd := kd) (d := d) (st := st) HD3.out HS3.out.1 HG.out HRI.out.2.2.1 HRI.out.2.1 HC3.out HZ.out
      obtain ⟨res, hres⟩ : ∃ res, createS s d st = res := ⟨_, rfl⟩
      rw [hres] at hcl
      have HRS : Hid (turnS s d st = res) := Lib.hid (by
        rw [HTC.out, ← hres]
        unfold changeS
        rw [if_neg HKR.out]
        rw [if_pos (by rw [HKD.out, HK1.out])])
      clear hres
      cases res with
      | error er =>
        go_upto_region 11 with fail
        go_wp2_with (first | (go_at_call 31; refine hcl.mono ?_; rintro e w4 ⟨rfl, hne, b4, k4⟩; refine Hid.out ?_) | (refine wpl_load _ rfl (by first | rfl | (simp [Act.eval]; done)) hldP ?_) | (refine wpl_load _ rfl (by first | rfl | (simp [Act.eval]; done)) hldD ?_))
        refine Lib.hid ?_
        have jp4 := k4 P _ MP.out
        have hb4 := HB3.out.trans ((b4.mono HS3.out.2).mono (Nat.le_refl _))
        obtain ⟨X3, e33, j3, f3⟩ := sets_row jp4 (#[.int .i64 (s.ver + 1), .int .i64 s.last, .slice tad G.length tcap]) rfl
        have hst3 : (Instr.storeAt 24 (.pointer (some ⟨P, 0, none⟩)) (.agg #[.int .i64 (s.ver + 1), .int .i64 s.last, .slice tad G.length tcap])).run Try.prog w4 = .ok () X3 := by
          rw [e33]
          exact store_row jp4 rfl size24 (by simp [Value.oneCell'])
        have hb3 : Below W.heap.size W X3 := hb4.trans (f3.toBelow (fun k9 hk9 q9 => by have := HPW.out; omega) hb4.size)
        have g1 : (er == 0) = false := by simpa using hne
        have g2 : (er != 0) = true := by simpa using hne
        have HNE := Lib.hid hne
        have HBX := Lib.hid hb3
        clear hcl b4 k4 jp4 hb4 e33 j3 f3 hb3 hne hldP hldD e0
        have i2 := (HBX.out.block Y2 (blk_lt J2.out)).trans J2.out
        obtain ⟨X4, e44, j4, f4⟩ := sets_row i2 (#[.int .i64 0, .int .i64 0, .slice none 0 0]) rfl
        have hst : (Instr.storeAt 24 (.pointer (some ⟨Y2, 0, none⟩)) (.agg #[.int .i64 0, .int .i64 0, .slice none 0 0])).run Try.prog X3 = .ok () X4 := by
          rw [e44]
          exact store_row i2 rfl size24 (by simp [Value.oneCell'])
        have J4 := Lib.hid j4
        have hbv := bgo HB.out HBX.out
        have HE : Hid (Below w.heap.size w X4) := Lib.hid (hbv.trans (f4.toBelow (fun k9 hk9 q9 => by have := GE.out; omega) hbv.size))
        clear e44 j4 f4 i2 hbv
        go_upto_region 18 with (refine wpl_store _ _ rfl (by first | rfl | (simp [Act.eval]; done)) (by first | rfl | (simp [Act.eval]; done)) hst3 ?_)
        clear hst3
        go_wp2_with (refine wpl_store _ _ rfl (by first | rfl | (simp [Act.eval]; done)) (by first | rfl | (simp [Act.eval]; done)) hst ?_)
        refine bodyPost_ret (results_two rfl rfl rfl (load_var J4.out Try.underlying24 rfl size24)) rfl ?_
        rw [HRS.out]
        exact ⟨rfl, HNE.out, HE.out⟩
      | ok s' =>
        go_upto_region 11 with fail
        go_wp2_with (first | (go_at_call 31; refine hcl.mono ?_; rintro e w4 ⟨G', tv9, rfl, hG', hD', b4, k4⟩; refine Hid.out ?_) | (refine wpl_load _ rfl (by first | rfl | (simp [Act.eval]; done)) hldP ?_) | (refine wpl_load _ rfl (by first | rfl | (simp [Act.eval]; done)) hldD ?_))
        refine Lib.hid ?_
        obtain ⟨uad, ucap, hsh⟩ := own_shape hD'.row
        subst hsh
        have jp4 := k4 P _ MP.out
        have hb4 := HB3.out.trans ((b4.mono HS3.out.2).mono (Nat.le_refl _))
        obtain ⟨X3, e33, j3, f3⟩ := sets_row jp4 (scA s' (.slice uad G'.length ucap)) rfl
        have hst3 : (Instr.storeAt 24 (.pointer (some ⟨P, 0, none⟩)) (.agg (scA s' (.slice uad G'.length ucap)))).run Try.prog w4 = .ok () X3 := by
          rw [e33]
          exact store_row jp4 rfl size24 (by simp [Value.oneCell'])
        have hb3 : Below W.heap.size W X3 := hb4.trans (f3.toBelow (fun k9 hk9 q9 => by have := HPW.out; omega) hb4.size)
        have hD3 : Dr X3 w1.heap.size G' (.slice uad G'.length ucap) := hD'.keep f3 (fun k9 hk9 => .inr (fun cs e tg => by
          rw [hk9, jp4] at tg
          simp only [Option.some.injEq, Obj.cells.injEq] at tg
          rw [← tg.2.1]
          decide))
        have i2 := (hb3.block Y2 (blk_lt J2.out)).trans J2.out
        have hld3 := load_row j3 Try.underlying24 rfl size24
        obtain ⟨X4, e44, j4, f4⟩ := sets_row i2 (scA s' (.slice uad G'.length ucap)) rfl
        have hst : (Instr.storeAt 24 (.pointer (some ⟨Y2, 0, none⟩)) (.agg (scA s' (.slice uad G'.length ucap)))).run Try.prog X3 = .ok () X4 := by
          rw [e44]
          exact store_row i2 rfl size24 (by simp [Value.oneCell'])
        have J4 := Lib.hid j4
        have hbv := bgo HB.out hb3
        have HE : Hid (Below w.heap.size w X4) := Lib.hid (hbv.trans (f4.toBelow (fun k9 hk9 q9 => by have := GE.out; omega) hbv.size))
        have HD4 : Hid (Dr X4 w.heap.size G' (.slice uad G'.length ucap)) := Lib.hid ((hD3.keep f4 (fun k9 hk9 => .inr (fun cs e tg => by
          rw [hk9, i2] at tg
          simp only [Option.some.injEq, Obj.cells.injEq] at tg
          rw [← tg.2.1]
          decide))).mono (by have := HB.out.size; have := HS3.out.2; omega))
        have HG' := Lib.hid hG'
        clear hcl b4 k4 jp4 hb4 e33 j3 f3 hb3 hD3 hD' hG' e44 j4 f4 i2 hbv hldP hldD e0
        go_upto_region 18 with (refine wpl_store _ _ rfl (by first | rfl | (simp [Act.eval]; done)) (by first | rfl | (simp [Act.eval]; done)) hst3 ?_)
        clear hst3
        go_wp2_with (first | (refine wpl_load _ rfl (by first | rfl | (simp [Act.eval]; done)) hld3 ?_) | (refine wpl_store _ _ rfl (by first | rfl | (simp [Act.eval]; done)) (by first | rfl | (simp [Act.eval]; done)) hst ?_))
        refine bodyPost_ret (results_two rfl rfl rfl (load_var J4.out Try.underlying24 rfl size24)) rfl ?_
        rw [HRS.out]
        exact ⟨G', _, rfl, HG'.out, HD4.out, HE.out⟩
    exact absurd HK11.out v1
end
end Go.Proofs.Ytkfnphhoebknnaa
