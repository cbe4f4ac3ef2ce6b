/- The walk of the program's redo, a whole change. -/
import Derived.Test.YtmiagjcihmenfaaXj
import Derived.Test.YtmiagjcihmenfaaXc
import Derived.Test.YtmiagjcihmenfaaXZ
import Derived.Deep.DeepCutAuto
namespace Go.Proofs.Ytmiagjcihmenfaa
open Go.RowKit

section
variable {w w' : World} {A : Nat} {S T : Nat → Prop} {b : Bs} {lv : Value} {pf : Int}
set_option maxHeartbeats 40000000 in
set_option maxRecDepth 100000 in
theorem redo_w (h : Pb w A S b) (d : De) {dad : Option Addr} {dcap : Nat} (hE : Es w S d.list (.slice dad d.list.length dcap)) (hm : b.may d) (hw0 : d.whole = true) (hz : b.log.length + d.list.length ≤ 900000) :
    Calls Try.prog 42 #[.pointer (some ⟨A, 0, none⟩), deV d (.slice dad d.list.length dcap)] w fun e w' => e = .returned (.tuple #[]) ∧ ∃ c, Like (b.over d) c ∧ Pt w w' A S c := by
  have hlt := h.lt
  obtain ⟨W, hW⟩ : ∃ W, W = w.alloc (deO d (.slice dad d.list.length dcap)) := ⟨_, rfl⟩
  have hb : Below w.heap.size w W := by rw [hW]; exact (Below.refl _ w).alloc (Nat.le_refl _) _
  have hblk : W.heap[w.heap.size]? = some (deB d (.slice dad d.list.length dcap)) := by rw [hW]; exact heap_alloc_new w _
  have hA := h.on hb
  have hEW := hE.on hb
  have hfw : Fr w W S := Fr.ofBelow S hb
  have HW := Lib.hid hW
  have d0 : W.cell? ⟨w.heap.size, 0, none⟩ = some (.int .i64 d.term) := cell_blk hblk 0
  have d1 : W.cell? ⟨w.heap.size, 1, none⟩ = some (.int .i64 d.vote) := cell_blk hblk 1
  have HS : Hid (∀ n, Pb (((W.drewN n).setCell ⟨A, 0, none⟩ (.int .i64 d.term)).setCell ⟨A, 1, none⟩ (.int .i64 d.vote)) A S { b with term := d.term, vote := d.vote } ∧ Fr W (((W.drewN n).setCell ⟨A, 0, none⟩ (.int .i64 d.term)).setCell ⟨A, 1, none⟩ (.int .i64 d.vote)) S) := by
    intro n
    obtain ⟨a1, f1⟩ := (hA.drewN n).setf (i := 0) (v := .int .i64 d.term) (b' := { b with term := d.term }) (fun _ _ => rfl) rfl rfl (fun _ q => q) rfl rfl
    obtain ⟨a2, f2⟩ := a1.setf (i := 1) (v := .int .i64 d.vote) (b' := { b with term := d.term, vote := d.vote }) (fun _ _ => rfl) rfl rfl (fun _ q => q) rfl rfl
    exact ⟨a2, (Fr.ofBelow S (below_draw (Below.refl W.heap.size W) n)).trans (f1.trans f2)⟩
  obtain ⟨lv, pf, hv⟩ := hA
  have hidl := hv.idl
  have hszz := hv.sz
  have c0 : W.cell? ⟨A, 0, none⟩ = some (.int .i64 b.term) := hv.cell 0
  have c1 : W.cell? ⟨A, 1, none⟩ = some (.int .i64 b.vote) := hv.cell 1
  have g0 : W.frozen? ⟨A, 0, none⟩ = false := frozen_blk hv.ob 0
  have g1 : W.frozen? ⟨A, 1, none⟩ = false := frozen_blk hv.ob 1
  have HB := Lib.hid hblk
  have HFW := Lib.hid hfw
  have HEW := Lib.hid hEW
  have HM := Lib.hid hm
  have HWH := Lib.hid hw0
  clear hw0
  clear hv h hE hEW hW hblk hfw hb hm
  go_enter Try.func42, Try.ntmps42
  go_upto_region 1 with fail
  rw [← HW.out]
  go_cut [] (fun wx => ∃ n, wx = ((W.drewN n).setCell ⟨A, 0, none⟩ (.int .i64 d.term)).setCell ⟨A, 1, none⟩ (.int .i64 d.vote))
  case first =>
    go_region
    go_wp2_with fail
    go_meet
    exact ⟨_, rfl⟩
  case rest =>
    obtain ⟨n, hwc⟩ := hcut
    obtain ⟨p1, f1⟩ := HS.out n
    rw [← hwc] at p1 f1
    have hnS : ¬ S w.heap.size := fun q => by have := hlt _ q; omega
    have jd := (f1.block _ (blk_lt HB.out) hnS).trans HB.out
    have hE1 := HEW.out.stays f1 (fun k q => .inl q)
    have hf1 := HFW.out.trans f1
    have e2 : wc.cell? ⟨w.heap.size, 2, none⟩ = some (.bool d.whole) := cell_blk jd 2
    have e3 : wc.cell? ⟨w.heap.size, 3, none⟩ = some (.int .i64 d.base) := cell_blk jd 3
    have e4 : wc.cell? ⟨w.heap.size, 4, none⟩ = some (.int .i64 d.baseTerm) := cell_blk jd 4
    have e5 : wc.cell? ⟨w.heap.size, 5, none⟩ = some (.string d.snap) := cell_blk jd 5
    have e6 : wc.cell? ⟨w.heap.size, 6, none⟩ = some (.int .i64 d.fr) := cell_blk jd 6
    have e7 : wc.cell? ⟨w.heap.size, 7, none⟩ = some (.slice dad d.list.length dcap) := cell_blk jd 7
    have hm := HM.out
    have hwh := HWH.out
    have hm2 := (may_w hwh).1 hm
    rw [hwh] at e2
    have hcl : ∀ V, Below wc.heap.size wc V → Calls Try.prog 69 #[.slice dad d.list.length dcap] V fun e w' => ∃ ad' cap', e = .returned (.slice ad' d.list.length cap') ∧ Below V.heap.size V w' ∧ Lg w' d.list (.slice ad' d.list.length cap') ∧ ∀ k, lgB (.slice ad' d.list.length cap') = some k → wc.heap.size ≤ k := by
      intro V hV
      refine (clone_p (hE1.on hV) (by omega)).mono ?_
      rintro e w' ⟨ad', cap', rfl, q1, q2, q3⟩
      exact ⟨ad', cap', rfl, q1, q2, fun k hk => Nat.le_trans hV.size (q3 k hk)⟩
    have HCL := Lib.hid hcl
    have HCE : Hid (∀ V, Below wc.heap.size wc V → V.cell? ⟨w.heap.size, 3, none⟩ = some (.int .i64 d.base) ∧ V.cell? ⟨w.heap.size, 4, none⟩ = some (.int .i64 d.baseTerm) ∧ V.cell? ⟨w.heap.size, 5, none⟩ = some (.string d.snap) ∧ V.cell? ⟨w.heap.size, 7, none⟩ = some (.slice dad d.list.length dcap)) := by
      intro V hV
      have j := (hV.block _ (blk_lt jd)).trans jd
      exact ⟨cell_blk j 3, cell_blk j 4, cell_blk j 5, cell_blk j 7⟩
    have HRB : Hid (∀ V ad' cap', Below wc.heap.size wc V → Lg V d.list (.slice ad' d.list.length cap') → (∀ k, lgB (.slice ad' d.list.length cap') = some k → wc.heap.size ≤ k) → Calls Try.prog 52 #[.pointer (some ⟨A, 0, none⟩), .int .i64 d.base, .int .i64 d.baseTerm, .string d.snap, .slice ad' d.list.length cap'] V fun e w' => e = .returned (.tuple #[]) ∧ ∃ c, Like (b.over d) c ∧ Pt w w' A S c) := by
      intro V ad' cap' q1 q2 q3
      obtain ⟨lv1, pf1, pv⟩ := p1.on q1
      refine (rebase_p (S := fun k => S k ∨ lgB (.slice ad' d.list.length cap') = some k) (i := d.base) (tm := d.baseTerm) (snap := d.snap) (L := d.list) pv.ob q2 (.inl pv.covA) (fun k hk => .inr hk) (fun k hk => ?_) (by omega) (by omega) (by omega) hidl hszz).mono ?_
      · rcases hk with hk | hk
        · exact pv.lt k hk
        · exact q2.lt k hk
      · rintro e w' ⟨rfl, r1, r2⟩
        refine ⟨rfl, _, ?_, _, r1, fun k hk => ?_, ?_⟩
        · unfold Like Bs.over
          rw [if_pos hwh]
          rfl
        · rcases hk with hk | hk
          · exact .inl hk
          · have a := q3 k hk
            have z := hf1.size
            exact .inr ⟨by omega, r1.lt k (.inr hk)⟩
        · refine (hf1.below q1).step r2 (fun j hj => ?_)
          rcases hj with hj | hj
          · exact .inl hj
          · have a := q3 j hj
            have z := hf1.size
            exact .inr (by omega)
    clear hcl hm2 hm jd p1 f1 hE1 hf1 hwc hwh
    go_wp2
    have hX0 : ∀ V, Below wc.heap.size wc V → Below V.heap.size V V := fun V _ => Below.refl _ _
    refine wp_region_last (fun V => Below wc.heap.size wc V) (fun V V' => Below V.heap.size V V')
      [fun v _ => v = .pointer (some ⟨A, 0, none⟩), fun v _ => v = .pointer (some ⟨w.heap.size, 3, none⟩), fun v _ => v = .int .i64 d.base, fun v _ => v = .pointer (some ⟨w.heap.size, 4, none⟩), fun v _ => v = .int .i64 d.baseTerm, fun v _ => v = .pointer (some ⟨w.heap.size, 5, none⟩), fun v _ => v = .string d.snap, fun v _ => v = .pointer (some ⟨w.heap.size, 7, none⟩), fun v _ => v = .slice dad d.list.length dcap, fun v V => ∃ ad' cap', v = .slice ad' d.list.length cap' ∧ Lg V d.list (.slice ad' d.list.length cap') ∧ ∀ k, lgB (.slice ad' d.list.length cap') = some k → wc.heap.size ≤ k]
      (fun _ V => ∃ c, Like (b.over d) c ∧ Pt w V A S c) rfl (by kernel_rfl) (by kernel_rfl) (by kernel_rfl) (by kernel_rfl) ?st ?g0 ?os ?la ?en
    case st =>
      refine ⟨fun _ _ _ _ h => h, fun _ _ _ _ h => h, fun _ _ _ _ h => h, fun _ _ _ _ h => h, fun _ _ _ _ h => h, fun _ _ _ _ h => h, fun _ _ _ _ h => h, fun _ _ _ _ h => h, fun _ _ _ _ h => h, ?_, trivial⟩
      rintro v V V' hV ⟨ad', cap', rfl, q1, q2⟩
      exact ⟨ad', cap', rfl, q1.like (fun k hk => hV.block k (q1.lt k hk)), q2⟩
    case g0 => exact (Below.refl _ _).drew
    case os =>
      refine ⟨?_, ?_, ?_, ?_, ?_, ?_, ?_, ?_, ?_, ?_, trivial⟩
      · refine ⟨rfl, fun ρ V hg ho hc hf hr => ?_⟩
        have e : ρ (.tmp 0) = .pointer (some ⟨A, 0, none⟩) := ho 0 rfl
        refine Runs.val _ ?_ ⟨hg, hX0 V hg, rfl⟩
        simp [execOp, e]
      · refine ⟨rfl, fun ρ V hg ho hc hf hr => ?_⟩
        have e : ρ (.tmp 3) = .pointer (some ⟨w.heap.size, 0, none⟩) := ho 3 rfl
        refine Runs.val _ ?_ ⟨hg, hX0 V hg, rfl⟩
        simp only [execOp, e]
        go_simp
      · refine ⟨rfl, fun ρ V hg ho hc hf hr => ?_⟩
        have e : ρ (.tmp 19) = .pointer (some ⟨w.heap.size, 3, none⟩) := hr 1 19 rfl rfl
        obtain ⟨y3, y4, y5, y7⟩ := HCE.out V hg
        refine Runs.val _ ?_ ⟨hg, hX0 V hg, rfl⟩
        simp only [execOp, e]
        go_simp
      · refine ⟨rfl, fun ρ V hg ho hc hf hr => ?_⟩
        have e : ρ (.tmp 3) = .pointer (some ⟨w.heap.size, 0, none⟩) := ho 3 rfl
        refine Runs.val _ ?_ ⟨hg, hX0 V hg, rfl⟩
        simp only [execOp, e]
        go_simp
      · refine ⟨rfl, fun ρ V hg ho hc hf hr => ?_⟩
        have e : ρ (.tmp 21) = .pointer (some ⟨w.heap.size, 4, none⟩) := hr 3 21 rfl rfl
        obtain ⟨y3, y4, y5, y7⟩ := HCE.out V hg
        refine Runs.val _ ?_ ⟨hg, hX0 V hg, rfl⟩
        simp only [execOp, e]
        go_simp
      · refine ⟨rfl, fun ρ V hg ho hc hf hr => ?_⟩
        have e : ρ (.tmp 3) = .pointer (some ⟨w.heap.size, 0, none⟩) := ho 3 rfl
        refine Runs.val _ ?_ ⟨hg, hX0 V hg, rfl⟩
        simp only [execOp, e]
        go_simp
      · refine ⟨rfl, fun ρ V hg ho hc hf hr => ?_⟩
        have e : ρ (.tmp 23) = .pointer (some ⟨w.heap.size, 5, none⟩) := hr 5 23 rfl rfl
        obtain ⟨y3, y4, y5, y7⟩ := HCE.out V hg
        refine Runs.val _ ?_ ⟨hg, hX0 V hg, rfl⟩
        simp only [execOp, e]
        go_simp
      · refine ⟨rfl, fun ρ V hg ho hc hf hr => ?_⟩
        have e : ρ (.tmp 3) = .pointer (some ⟨w.heap.size, 0, none⟩) := ho 3 rfl
        refine Runs.val _ ?_ ⟨hg, hX0 V hg, rfl⟩
        simp only [execOp, e]
        go_simp
      · refine ⟨rfl, fun ρ V hg ho hc hf hr => ?_⟩
        have e : ρ (.tmp 25) = .pointer (some ⟨w.heap.size, 7, none⟩) := hr 7 25 rfl rfl
        obtain ⟨y3, y4, y5, y7⟩ := HCE.out V hg
        refine Runs.val _ ?_ ⟨hg, hX0 V hg, rfl⟩
        simp only [execOp, e]
        go_simp
      · refine ⟨rfl, fun ρ V hg ho hc hf hr => ?_⟩
        have e : ρ (.tmp 26) = .slice dad d.list.length dcap := hr 8 26 rfl rfl
        refine Runs.goes 69 #[.slice dad d.list.length dcap] ?_ ?_
        · simp only [execOp]
          simp [resolve, hf, e, Deferred.ofValue, invoke]
        · refine (HCL.out V hg).mono ?_
          rintro ee V' ⟨ad', cap', rfl, q1, q2, q3⟩
          exact ⟨_, rfl, hg.trans (q1.mono hg.size), q1, ad', cap', rfl, q2, q3⟩
    case la =>
      refine ⟨rfl, fun ρ V hg ho hc hf hr => ?_⟩
      have e0 : ρ (.tmp 18) = .pointer (some ⟨A, 0, none⟩) := hr 0 18 (by decide) rfl
      have e2 : ρ (.tmp 20) = .int .i64 d.base := hr 2 20 (by decide) rfl
      have e4 : ρ (.tmp 22) = .int .i64 d.baseTerm := hr 4 22 (by decide) rfl
      have e6 : ρ (.tmp 24) = .string d.snap := hr 6 24 (by decide) rfl
      obtain ⟨ad', cap', e9, q1, q2⟩ : ∃ ad' cap', ρ (.tmp 27) = .slice ad' d.list.length cap' ∧ Lg V d.list (.slice ad' d.list.length cap') ∧ ∀ k, lgB (.slice ad' d.list.length cap') = some k → wc.heap.size ≤ k := hr 9 27 (by decide) rfl
      refine Runs.goes 52 #[.pointer (some ⟨A, 0, none⟩), .int .i64 d.base, .int .i64 d.baseTerm, .string d.snap, .slice ad' d.list.length cap'] ?_ ?_
      · simp only [execOp]
        simp [resolve, hf, e0, e2, e4, e6, e9, Deferred.ofValue, invoke]
      · refine (HRB.out V ad' cap' hg q1 q2).mono ?_
        rintro ee V' ⟨rfl, q⟩
        exact ⟨_, rfl, q⟩
    case en =>
      intro a V Vb v hq hs hd ho hv hr
      obtain ⟨x, hx, hxt⟩ := act_is (n := 35) hs hd
      have HQ := Lib.hid hq
      rw [show List.range 35 = [0, 1, 2, 3, 4, 5, 6, 7, 8, 9, 10, 11, 12, 13, 14, 15, 16, 17, 18, 19, 20, 21, 22, 23, 24, 25, 26, 27, 28, 29, 30, 31, 32, 33, 34] from rfl] at hx
      simp only [List.map_cons, List.map_nil] at hx
      clear hq hs hd ho hv hr hxt
      subst hx
      go_wp2
      refine bodyPost_ret (results_none rfl _ _ _) rfl ?_
      exact ⟨rfl, HQ.out⟩
end
end Go.Proofs.Ytmiagjcihmenfaa
