/- The law SchemaSeen. -/
import Derived.Test.YtongmhfpoopebaaTl
import Derived.Test.YtongmhfpoopebaaSd
import Derived.Test.YtongmhfpoopebaaPw
namespace Go.Proofs.Ytongmhfpoopebaa
open Go.RowKit
def zDd : Dd := ⟨0, ⟨#[]⟩, ⟨#[]⟩, ⟨#[]⟩, ⟨#[]⟩, false, 0, ⟨0, 0, ⟨#[]⟩⟩, []⟩
section
variable {w : World}
theorem great0 {s : Sc} {tv : Value} (hL : Lr tbE 5 w s.tabs tv) (hz : scB s ≤ 1048576) : Calls Try.prog 8 #[scV s tv, .agg #[.int .i64 0, .string ⟨#[]⟩, .string ⟨#[]⟩, .string ⟨#[]⟩, .string ⟨#[]⟩, .bool false, .int .i64 0, .int .i64 0, .int .i64 0, .string ⟨#[]⟩, .slice none 0 0]] w (GrAns w (s.tabs.length + 0 + cntN s.tabs ≤ 300)) :=
  great_any (d := zDd) (da := none) (dc := 0) hL (by have := tabs_B s; omega) (by decide) (fun t ht => by
    have h1 := tab_B ht
    have h2 := cntT_B t
    omega)
theorem few_sc {s : Sc} (h : s.tabs.length + 0 + cntN s.tabs ≤ 300) : Few s.tabs := by
  obtain ⟨h1, h2⟩ := few_of h
  refine ⟨by omega, fun t ht => ?_⟩
  have := h2 t ht
  unfold cntT at this
  exact ⟨by omega, by omega, by omega⟩
set_option maxHeartbeats 4000000 in
set_option maxRecDepth 100000 in
theorem seen_law {s : Sc} {tv : Value} (hL : Lr tbE 5 w s.tabs tv) (hI : ScIn s) (hz : scB s ≤ 1048576) : Calls Try.prog 4 #[scV s tv] w fun e w' => e = .returned (.bool true) ∧ Below w.heap.size w w' := by
  obtain ⟨ta, tc, rfl, hr0⟩ := hL
  have hL : Lr tbE 5 w s.tabs (.slice ta s.tabs.length tc) := ⟨ta, tc, rfl, hr0⟩
  obtain ⟨W, hW⟩ : ∃ W, W = w.alloc (.cells #[.int .i64 s.ver, .int .i64 s.last, .slice ta s.tabs.length tc] 36) := ⟨_, rfl⟩
  have hbW : Below w.heap.size w W := by rw [hW]; exact bnew _ _
  obtain ⟨Y, hY⟩ : ∃ Y, w.heap.size = Y := ⟨_, rfl⟩
  have jY : W.heap[Y]? = some (.cells (scA s (.slice ta s.tabs.length tc)) 36 (0, 0)) := by rw [hW, ← hY]; exact heap_alloc_new w _
  have haw := awake_any W
  have HL0 := Lib.hid (hL.on tbE_held hbW)
  have HI2 := Lib.hid (seenS_in hI)
  have HZ := Lib.hid hz
  have HZ2 : Hid ((schL (seenS s)).length ≤ 1000000000) := Lib.hid (by
    have h1 := schL_len (seenS s)
    have h2 := seenS_B s
    omega)
  have HW := Lib.hid hW
  have HBW := Lib.hid hbW
  have HY := Lib.hid hY
  have JW := Lib.hid jY
  clear hW hbW hY jY hL hr0 hI hz
  go_enter Try.func4, Try.ntmps4
  go_upto_region 1 with fail
  rw [← HW.out, HY.out]
  go_wp2_with (go_at_call 7; refine haw.mono ?_; rintro e w1 ⟨rfl, b1⟩; refine Hid.out ?_)
  refine Lib.hid ?_
  have jY := (b1.block Y (blk_lt JW.out)).trans JW.out
  have c0 : w1.cell? ⟨Y, 0, none⟩ = some (.int .i64 s.ver) := cell_blk jY 0
  have c1 : w1.cell? ⟨Y, 1, none⟩ = some (.int .i64 s.last) := cell_blk jY 1
  have c2 : w1.cell? ⟨Y, 2, none⟩ = some (.slice ta s.tabs.length tc) := cell_blk jY 2
  have hgr := great0 (HL0.out.on tbE_held b1) HZ.out
  have HL1 := Lib.hid (HL0.out.on tbE_held b1)
  have HB1 := Lib.hid (bgo HBW.out b1)
  have JV := Lib.hid jY
  clear haw b1 jY HL0 JW
  go_wp2_with (go_at_call 8; refine hgr.mono ?_; rintro e w2 ⟨g, rfl, hP, b2⟩; refine Hid.out ?_)
  refine Lib.hid ?_
  have HB2 := Lib.hid (bgo HB1.out b2)
  have HL := Lib.hid (HL1.out.on tbE_held b2)
  have JY : Hid (w2.heap[Y]? = some (.cells (scA s (.slice ta s.tabs.length tc)) 36 (0, 0))) := Lib.hid ((b2.block Y (blk_lt JV.out)).trans JV.out)
  have HP := Lib.hid hP
  clear hgr hP b2 c0 c1 c2
  cases g with
  | true =>
    have haw := awake_any w2
    go_wp2_with (go_at_call 7; refine haw.mono ?_; rintro e w3 ⟨rfl, b3⟩; refine Hid.out ?_)
    refine Lib.hid ?_
    have HB3 := Lib.hid (bgo HB2.out b3)
    clear haw b3
    go_wp2
    go_ret
    exact ⟨rfl, HB3.out⟩
  | false =>
    have HF := Lib.hid (few_sc (HP.out rfl))
    go_upto_region 3 with fail
    refine wp_region_fin (fun X9 => Below w2.heap.size w2 X9) (fun X9 X' => Below X9.heap.size X9 X') [
      fun v9 _ => v9 = scV s (.slice ta s.tabs.length tc),
      fun v9 X9 => ∃ tv9, v9 = scV s tv9 ∧ Lr tbE 5 X9 (seenS s).tabs tv9,
      fun v9 _ => v9 = scV s (.slice ta s.tabs.length tc),
      fun v9 X9 => ∃ tv9, v9 = scV s tv9 ∧ Lr tbE 5 X9 (seenS s).tabs tv9,
      fun v9 _ => v9 = .bool true]
      (fun v9 X9 => v9 = .bool true ∧ Below w2.heap.size w2 X9) rfl (by kernel_rfl) (by kernel_rfl) (by kernel_rfl) (by kernel_rfl) ?st ?g0 ?os ?la ?en
    case st => exact ⟨fun _ _ _ _ h => h, (fun _ _ _ hb h => by obtain ⟨t9, e9, h9⟩ := h; exact ⟨t9, e9, h9.on tbE_held hb⟩), fun _ _ _ _ h => h, (fun _ _ _ hb h => by obtain ⟨t9, e9, h9⟩ := h; exact ⟨t9, e9, h9.on tbE_held hb⟩), fun _ _ _ _ h => h, trivial⟩
    case g0 => exact ⟨rfl, rfl, rfl, Nat.le_refl _, fun _ _ => rfl⟩
    case os =>
      refine ⟨?_, ?_, ?_, ?_, ?_, trivial⟩
      · exact ⟨rfl, fun ρ X9 hg ho hc hf hr => Runs.val _ (op_loadAt (show ρ (.tmp 1) = .pointer (some ⟨Y, 0, none⟩) from ho 1 rfl) (load_row ((hg.block Y (blk_lt JY.out)).trans JY.out) Try.underlying36 rfl size36)) ⟨hg, Below.refl _ _, rfl⟩⟩
      · refine ⟨rfl, fun ρ X9 hg ho hc hf hr => ?_⟩
        refine Runs.goes 10 #[scV s (.slice ta s.tabs.length tc)] (op_call1 hf (by go_simp) (show ρ (.tmp 11) = scV s (.slice ta s.tabs.length tc) from hr 0 11 rfl rfl)) ((seen_any (HL.out.on tbE_held hg) HF.out).mono ?_)
        rintro e7 w7 ⟨G7, t7, rfl, h7, d7, b7⟩
        refine ⟨_, rfl, hg.trans (b7.mono hg.size), b7, t7, rfl, ?_⟩
        have q7 := d7.reads
        rw [h7] at q7
        exact q7
      · exact ⟨rfl, fun ρ X9 hg ho hc hf hr => Runs.val _ (op_loadAt (show ρ (.tmp 1) = .pointer (some ⟨Y, 0, none⟩) from ho 1 rfl) (load_row ((hg.block Y (blk_lt JY.out)).trans JY.out) Try.underlying36 rfl size36)) ⟨hg, Below.refl _ _, rfl⟩⟩
      · refine ⟨rfl, fun ρ X9 hg ho hc hf hr => ?_⟩
        refine Runs.goes 11 #[scV s (.slice ta s.tabs.length tc)] (op_call1 hf (by go_simp) (show ρ (.tmp 13) = scV s (.slice ta s.tabs.length tc) from hr 2 13 rfl rfl)) ((refseen_any (HL.out.on tbE_held hg) HF.out).mono ?_)
        rintro e7 w7 ⟨G7, t7, rfl, h7, d7, b7⟩
        refine ⟨_, rfl, hg.trans (b7.mono hg.size), b7, t7, rfl, ?_⟩
        have q7 := d7.reads
        rw [h7] at q7
        exact q7
      · refine ⟨rfl, fun ρ X9 hg ho hc hf hr => ?_⟩
        obtain ⟨t1, e1, h1⟩ : ∃ tv9, ρ (.tmp 12) = scV s tv9 ∧ Lr tbE 5 X9 (seenS s).tabs tv9 := hr 1 12 rfl rfl
        obtain ⟨t2, e2, h2⟩ : ∃ tv9, ρ (.tmp 14) = scV s tv9 ∧ Lr tbE 5 X9 (seenS s).tabs tv9 := hr 3 14 rfl rfl
        refine Runs.goes 9 #[scV s t1, scV s t2] (op_call2 hf (by go_simp) e1 e2) ((same_any (s := seenS s) h1 h2 HI2.out HZ2.out).mono ?_)
        rintro e7 w7 ⟨rfl, b7⟩
        exact ⟨_, rfl, hg.trans (b7.mono hg.size), b7, rfl⟩
    case la =>
      refine ⟨rfl, fun ρ X9 hg ho hc hf hr => ?_⟩
      exact Runs.val _ (op_assign (show ρ (.tmp 15) = .bool true from hr 4 15 (by decide) rfl)) ⟨rfl, hg⟩
    case en =>
      intro a9 X9 Xb v9 hF hs9 hd9 ho9 hv9 hr9
      obtain ⟨x9, hx, hxt⟩ := act_put hs9 hd9 ho9
      have e2 : x9 2 = .bool true := (hxt 2).symm.trans ((hv9 2 rfl).trans hF.1)
      change a9 = putAll _ x9 [11, 12, 13, 14, 15, 2] at hx
      simp only [putAll, Act.put, List.setIfInBounds_toArray, List.set_cons_zero, List.set_cons_succ, e2] at hx
      have HG := Lib.hid hF.2
      clear hF hs9 hd9 ho9 hv9 hr9 hxt e2
      subst hx
      generalize x9 11 = z11, x9 12 = z12, x9 13 = z13, x9 14 = z14, x9 15 = z15
      go_wp2
      go_ret
      exact ⟨rfl, bgo HB2.out HG.out⟩
end
end Go.Proofs.Ytongmhfpoopebaa
