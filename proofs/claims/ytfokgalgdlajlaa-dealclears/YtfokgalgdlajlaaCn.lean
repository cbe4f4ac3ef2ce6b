/- Told, Late, Verdict, Over. -/
import Derived.Test.YtfokgalgdlajlaaCm
namespace Go.Proofs.Ytfokgalgdlajlaa
open Go.RowKit
section
variable {w : World} {A : Nat} {d : Dl} {pa wa : Option Addr} {pc wc : Nat}
set_option maxHeartbeats 4000000 in
set_option maxRecDepth 100000 in
theorem resolved_any (h : Dx w A d pa pc wa wc) (hz : d.wait.length ≤ 900000) (sh : Int) : Calls Try.prog 34 #[.pointer (some ⟨A, 0, none⟩), .int .i64 sh] w (DlAns w A (d.after sh 4) pa pc) := by
  have hc := answered_any h hz sh
  have HC := Lib.hid hc
  clear h hz hc
  unfold Dl.after
  generalize d.less sh = d1 at HC
  by_cases hn : d1.wait.length = 0
  · rw [if_pos hn]
    go_enter Try.func34, Try.ntmps34
    go_wp2_with fail
    refine HC.out.mono ?_
    rintro e v1 ⟨rfl, ⟨wa1, wc1, h1⟩, f1⟩
    rw [decide_eq_true hn]
    have HE := Lib.hid (enter_any h1 4)
    have HF := Lib.hid f1
    clear h1 f1
    go_wp2_with fail
    refine HE.out.mono ?_
    rintro e v2 ⟨rfl, h2, f2⟩
    have HR : Hid (DlAns w A (d1.enter 4) pa pc (.returned (.tuple #[])) v2) := Lib.hid ⟨rfl, ⟨_, _, h2⟩, HF.out.trans f2⟩
    clear h2 f2
    go_wp2
    refine bodyPost_end (results_none rfl _ _ _) rfl ?_
    exact HR.out
  · rw [if_neg hn]
    go_enter Try.func34, Try.ntmps34
    go_wp2_with fail
    refine HC.out.mono ?_
    rintro e v1 ⟨rfl, ⟨wa1, wc1, h1⟩, f1⟩
    rw [decide_eq_false hn]
    have HR : Hid (DlAns w A d1 pa pc (.returned (.tuple #[])) v1) := Lib.hid ⟨rfl, ⟨_, _, h1⟩, f1⟩
    clear h1 f1
    go_wp2
    refine bodyPost_end (results_none rfl _ _ _) rfl ?_
    exact HR.out
set_option maxHeartbeats 4000000 in
set_option maxRecDepth 100000 in
theorem committed_any (h : Dx w A d pa pc wa wc) (r : Rz) : Calls Try.prog 32 #[.pointer (some ⟨A, 0, none⟩), .agg (rzA r)] w (DlAns w A (d.committed r) pa pc) := by
  obtain ⟨W, hW⟩ : ∃ W, W = w.alloc (.cells (rzA r) 48) := ⟨_, rfl⟩
  obtain ⟨Y, hY⟩ : ∃ Y, w.heap.size = Y := ⟨_, rfl⟩
  have hb : Below w.heap.size w W := by rw [hW]; exact bnew w _
  have jY : W.heap[Y]? = some (.cells (rzA r) 48 (0, 0)) := by rw [hW, ← hY]; exact heap_alloc_new w _
  have hD := h.on hb
  have l0 : W.cell? ⟨Y, 0, none⟩ = some (.int .i64 r.er) := cell_blk jY 0
  have l1 : W.cell? ⟨Y, 1, none⟩ = some (.int .i64 r.ts) := cell_blk jY 1
  have HD := Lib.hid hD
  have HB := Lib.hid hb
  have HW := Lib.hid hW
  have HY := Lib.hid hY
  have HJ := Lib.hid jY
  clear h hb hW hY jY hD
  unfold Dl.committed
  by_cases he : r.er = 0
  · rw [if_pos he]
    have HE := Lib.hid (end_any HD.out r.ts 0)
    go_enter Try.func32, Try.ntmps32
    go_upto_region 1 with fail
    rw [← HW.out, HY.out]
    go_wp2_with fail
    refine HE.out.mono ?_
    rintro e v2 ⟨rfl, h2, f2⟩
    have HR : Hid (DlAns w A (d.fin r.ts 0) pa pc (.returned (.tuple #[])) v2) := Lib.hid ⟨rfl, ⟨_, _, h2⟩, (Fr.ofBelow _ HB.out).trans f2⟩
    clear h2 f2
    go_wp2
    refine bodyPost_end (results_none rfl _ _ _) rfl ?_
    exact HR.out
  · rw [if_neg he]
    have HE := Lib.hid (end_any HD.out 0 r.er)
    go_enter Try.func32, Try.ntmps32
    go_upto_region 1 with fail
    rw [← HW.out, HY.out]
    go_wp2_with fail
    refine HE.out.mono ?_
    rintro e v2 ⟨rfl, h2, f2⟩
    have HR : Hid (DlAns w A (d.fin 0 r.er) pa pc (.returned (.tuple #[])) v2) := Lib.hid ⟨rfl, ⟨_, _, h2⟩, (Fr.ofBelow _ HB.out).trans f2⟩
    clear h2 f2
    go_wp2
    refine bodyPost_end (results_none rfl _ _ _) rfl ?_
    exact HR.out
set_option maxHeartbeats 4000000 in
set_option maxRecDepth 100000 in
theorem aborted_any (h : Dx w A d pa pc wa wc) (r : Rz) : Calls Try.prog 33 #[.pointer (some ⟨A, 0, none⟩), .agg (rzA r)] w (DlAns w A (d.aborted r) pa pc) := by
  obtain ⟨W, hW⟩ : ∃ W, W = w.alloc (.cells (rzA r) 48) := ⟨_, rfl⟩
  obtain ⟨Y, hY⟩ : ∃ Y, w.heap.size = Y := ⟨_, rfl⟩
  have hb : Below w.heap.size w W := by rw [hW]; exact bnew w _
  have jY : W.heap[Y]? = some (.cells (rzA r) 48 (0, 0)) := by rw [hW, ← hY]; exact heap_alloc_new w _
  have hD := h.on hb
  have l0 : W.cell? ⟨Y, 0, none⟩ = some (.int .i64 r.er) := cell_blk jY 0
  have l1 : W.cell? ⟨Y, 1, none⟩ = some (.int .i64 r.ts) := cell_blk jY 1
  have HD := Lib.hid hD
  have HB := Lib.hid hb
  have HW := Lib.hid hW
  have HY := Lib.hid hY
  have HJ := Lib.hid jY
  clear h hb hW hY jY hD
  unfold Dl.aborted
  by_cases he : r.er = 0
  · rw [if_pos he]
    have HE := Lib.hid (end_any HD.out 0 132)
    go_enter Try.func33, Try.ntmps33
    go_upto_region 1 with fail
    rw [← HW.out, HY.out]
    go_wp2_with fail
    refine HE.out.mono ?_
    rintro e v2 ⟨rfl, h2, f2⟩
    have HR : Hid (DlAns w A (d.fin 0 132) pa pc (.returned (.tuple #[])) v2) := Lib.hid ⟨rfl, ⟨_, _, h2⟩, (Fr.ofBelow _ HB.out).trans f2⟩
    clear h2 f2
    go_wp2
    refine bodyPost_end (results_none rfl _ _ _) rfl ?_
    exact HR.out
  · rw [if_neg he]
    by_cases he2 : r.er = 132
    · rw [if_pos he2]
      have HE := Lib.hid (end_any HD.out r.ts 0)
      go_enter Try.func33, Try.ntmps33
      go_upto_region 1 with fail
      rw [← HW.out, HY.out]
      go_wp2_with fail
      refine HE.out.mono ?_
      rintro e v2 ⟨rfl, h2, f2⟩
      have HR : Hid (DlAns w A (d.fin r.ts 0) pa pc (.returned (.tuple #[])) v2) := Lib.hid ⟨rfl, ⟨_, _, h2⟩, (Fr.ofBelow _ HB.out).trans f2⟩
      clear h2 f2
      go_wp2
      refine bodyPost_end (results_none rfl _ _ _) rfl ?_
      exact HR.out
    · rw [if_neg he2]
      go_enter Try.func33, Try.ntmps33
      go_upto_region 1 with fail
      rw [← HW.out, HY.out]
      go_wp2
      refine bodyPost_end (results_none rfl _ _ _) rfl ?_
      exact ⟨rfl, ⟨_, _, HD.out⟩, Fr.ofBelow _ HB.out⟩
def Dl.hiF (d : Dl) (f : Bool) (n : Int) : Dl := { d with high := cond f (if d.high < n then n else d.high) d.high }
set_option maxHeartbeats 4000000 in
set_option maxRecDepth 100000 in
theorem prepared_any (h : Dx w A d pa pc wa wc) (hz : d.wait.length ≤ 900000) (sh : Int) (r : Rz) : Calls Try.prog 31 #[.pointer (some ⟨A, 0, none⟩), .int .i64 sh, .agg (rzA r)] w (DlAns w A (d.prepared sh r) pa pc) := by
  have HA : Hid (A < w.heap.size) := Lib.hid h.lt
  have HZ := Lib.hid hz
  clear hz
  obtain ⟨W, hW⟩ : ∃ W, W = w.alloc (.cells (rzA r) 48) := ⟨_, rfl⟩
  obtain ⟨Y, hY⟩ : ∃ Y, w.heap.size = Y := ⟨_, rfl⟩
  have hb : Below w.heap.size w W := by rw [hW]; exact bnew w _
  have jY : W.heap[Y]? = some (.cells (rzA r) 48 (0, 0)) := by rw [hW, ← hY]; exact heap_alloc_new w _
  have hD := h.on hb
  have l0 : W.cell? ⟨Y, 0, none⟩ = some (.int .i64 r.er) := cell_blk jY 0
  have l1 : W.cell? ⟨Y, 1, none⟩ = some (.int .i64 r.ts) := cell_blk jY 1
  have HD := Lib.hid hD
  have HB := Lib.hid hb
  have HW := Lib.hid hW
  have HY := Lib.hid hY
  have HJ := Lib.hid jY
  have HNE : Hid (Y ≠ A) := Lib.hid (by have := HA.out; omega)
  clear h hb hW hY jY hD
  unfold Dl.prepared
  by_cases he : r.er = 0
  · rw [if_pos he]
    obtain ⟨D, hDD⟩ : ∃ D, ({ d with high := if d.high < r.ts then r.ts else d.high } : Dl).after sh 2 = D := ⟨_, rfl⟩
    rw [hDD]
    unfold Dl.after at hDD
    have HDD := Lib.hid hDD
    clear hDD
    go_enter Try.func31, Try.ntmps31
    go_upto_region 1 with fail
    rw [← HW.out, HY.out]
    go_upto_region 3 with fail
    refine wp_region_fb (fun fl X9 => Fr W X9 (fun k => k = A) ∧ X9.heap[A]? = some (.cells (dlA (d.hiF (fl 10) r.ts) pa pc wa wc) 82 (0, 0))) (fun _ _ => True) [
      fun v9 _ => v9 = .pointer (some ⟨A, 0, none⟩),
      fun v9 _ => v9 = .pointer (some ⟨A, 0, none⟩),
      fun v9 _ => v9 = .pointer (some ⟨A, 0, none⟩),
      fun v9 _ => v9 = .pointer (some ⟨A, 11, none⟩),
      fun v9 _ => v9 = .int .i64 d.high,
      fun v9 _ => v9 = .pointer (some ⟨Y, 1, none⟩),
      fun v9 _ => v9 = .int .i64 r.ts,
      fun v9 _ => v9 = .int .i64 (if d.high < r.ts then r.ts else d.high),
      fun v9 _ => v9 = .pointer (some ⟨A, 0, none⟩),
      fun v9 _ => v9 = .pointer (some ⟨A, 11, none⟩),
      fun _ _ => True]
      (by kernel_rfl) (by kernel_rfl) (by kernel_rfl) ?st ?g0 ?os ?en
    case st => exact ⟨fun _ _ _ _ h => h, fun _ _ _ _ h => h, fun _ _ _ _ h => h, fun _ _ _ _ h => h, fun _ _ _ _ h => h, fun _ _ _ _ h => h, fun _ _ _ _ h => h, fun _ _ _ _ h => h, fun _ _ _ _ h => h, fun _ _ _ _ h => h, fun _ _ _ _ h => h, trivial⟩
    case g0 => exact ⟨Fr.ofBelow _ ⟨rfl, rfl, rfl, Nat.le_refl _, fun _ _ => rfl⟩, HD.out.blk⟩
    case os =>
      refine ⟨?_, ?_, ?_, ?_, ?_, ?_, ?_, ?_, ?_, ?_, ?_, trivial⟩
      · exact fun ρ X9 fl hg hn hl hp ho hc hf hr => .inl ⟨rfl, Runs.val _ (op_move (show ρ (.tmp 0) = .pointer (some ⟨A, 0, none⟩) from ho 0 rfl)) ⟨hg, trivial, rfl⟩⟩
      · exact fun ρ X9 fl hg hn hl hp ho hc hf hr => .inl ⟨rfl, Runs.val _ (op_move (show ρ (.tmp 0) = .pointer (some ⟨A, 0, none⟩) from ho 0 rfl)) ⟨hg, trivial, rfl⟩⟩
      · exact fun ρ X9 fl hg hn hl hp ho hc hf hr => .inl ⟨rfl, Runs.val _ (op_nil (show ρ (.tmp 14) = .pointer (some ⟨A, 0, none⟩) from hr 1 14 rfl rfl)) ⟨hg, trivial, rfl⟩⟩
      · exact fun ρ X9 fl hg hn hl hp ho hc hf hr => .inl ⟨rfl, Runs.val _ (op_f82_9 (show ρ (.tmp 15) = .pointer (some ⟨A, 0, none⟩) from hr 2 15 rfl rfl)) ⟨hg, trivial, rfl⟩⟩
      · intro ρ X9 fl hg hn hl hp ho hc hf hr
        have n7 : fl 7 = false := by
          cases h9 : fl 7 with
          | false => rfl
          | true => exact absurd (hl 7 _ 4 rfl rfl h9) (by rw [hn]; decide)
        have n10 : fl 10 = false := by
          cases h9 : fl 10 with
          | false => rfl
          | true => exact absurd (hl 10 _ 7 rfl rfl h9) (by rw [n7]; decide)
        have hG : Fr W X9 (fun k => k = A) ∧ X9.heap[A]? = some (.cells (dlA (d.hiF (fl 10) r.ts) pa pc wa wc) 82 (0, 0)) := hg
        rw [n10] at hG
        exact .inl ⟨rfl, Runs.val _ (op_load3 (show ρ (.tmp 16) = .pointer (some ⟨A, 11, none⟩) from hr 3 16 rfl rfl) (cell_blk hG.2 11)) ⟨hg, trivial, rfl⟩⟩
      · exact fun ρ X9 fl hg hn hl hp ho hc hf hr => .inl ⟨rfl, Runs.val _ (op_f48_1 (show ρ (.tmp 5) = .pointer (some ⟨Y, 0, none⟩) from ho 5 rfl)) ⟨hg, trivial, rfl⟩⟩
      · exact fun ρ X9 fl hg hn hl hp ho hc hf hr => .inl ⟨rfl, Runs.val _ (op_load3 (show ρ (.tmp 18) = .pointer (some ⟨Y, 1, none⟩) from hr 5 18 rfl rfl) (fr_cell hg.1 (cell_blk HJ.out 1) HNE.out)) ⟨hg, trivial, rfl⟩⟩
      · exact fun ρ X9 fl hg hn hl hp ho hc hf hr => .inl ⟨rfl, Runs.val _ (op_max3 (show ρ (.tmp 17) = .int .i64 d.high from hr 4 17 rfl rfl) (show ρ (.tmp 19) = .int .i64 r.ts from hr 6 19 rfl rfl)) ⟨hg, trivial, rfl⟩⟩
      · exact fun ρ X9 fl hg hn hl hp ho hc hf hr => .inl ⟨rfl, Runs.val _ (op_nil (show ρ (.tmp 13) = .pointer (some ⟨A, 0, none⟩) from hr 0 13 rfl rfl)) ⟨hg, trivial, rfl⟩⟩
      · exact fun ρ X9 fl hg hn hl hp ho hc hf hr => .inl ⟨rfl, Runs.val _ (op_f82_9 (show ρ (.tmp 21) = .pointer (some ⟨A, 0, none⟩) from hr 8 21 rfl rfl)) ⟨hg, trivial, rfl⟩⟩
      · intro ρ X9 fl hg hn hl hp ho hc hf hr
        have hG : Fr W X9 (fun k => k = A) ∧ X9.heap[A]? = some (.cells (dlA (d.hiF (fl 10) r.ts) pa pc wa wc) 82 (0, 0)) := hg
        refine .inl ⟨rfl, ?_⟩
        exact Runs.skips (op_store3 (show ρ (.tmp 22) = .pointer (some ⟨A, 11, none⟩) from hr 9 22 rfl rfl) (show ρ (.tmp 20) = .int .i64 (if d.high < r.ts then r.ts else d.high) from hr 7 20 rfl rfl) (cell_blk hG.2 11) (frozen_blk hG.2 _)) ⟨⟨hG.1.set (a := ⟨A, 11, none⟩) (.inl rfl) _, set_blk hG.2 _⟩, trivial, trivial⟩
    case en =>
      intro a9 w6 fl hfl hG9 hs9 hd9 ho9 hr9
      obtain ⟨x9, hx, hxt⟩ := act_put hs9 hd9 ho9
      change a9 = putAll _ x9 [13, 14, 15, 16, 17, 18, 19, 20, 21, 22] at hx
      simp only [putAll, Act.put, List.setIfInBounds_toArray, List.set_cons_zero, List.set_cons_succ] at hx
      subst hx
      clear hs9 hd9 ho9 hr9 hxt 
      generalize x9 13 = z13, x9 14 = z14, x9 15 = z15, x9 16 = z16, x9 17 = z17, x9 18 = z18, x9 19 = z19, x9 20 = z20, x9 21 = z21, x9 22 = z22
      have hG : Fr W w6 (fun k => k = A) ∧ w6.heap[A]? = some (.cells (dlA { d with high := if d.high < r.ts then r.ts else d.high } pa pc wa wc) 82 (0, 0)) := by
        have h9 := hG9
        rw [hfl 10 (by decide)] at h9
        exact h9
      clear hfl hG9
      have hD6 := HD.out.put (d' := { d with high := if d.high < r.ts then r.ts else d.high }) hG.2 hG.1 rfl HD.out.ws
      have HC := Lib.hid (answered_any hD6 HZ.out sh)
      have HF6 : Hid (Fr w w6 (fun k => k = A)) := Lib.hid ((Fr.ofBelow _ HB.out).trans hG.1)
      clear hG hD6
      generalize ({ d with high := if d.high < r.ts then r.ts else d.high } : Dl).less sh = d1 at HC HDD
      by_cases hn : d1.wait.length = 0
      · have hR := HDD.out
        rw [if_pos hn] at hR
        subst hR
        clear HDD
        go_wp2_with fail
        refine HC.out.mono ?_
        rintro e v1 ⟨rfl, ⟨wa1, wc1, h1⟩, f1⟩
        rw [decide_eq_true hn]
        have HE := Lib.hid (enter_any h1 2)
        have HF := Lib.hid (HF6.out.trans f1)
        clear h1 f1
        go_wp2_with fail
        refine HE.out.mono ?_
        rintro e v2 ⟨rfl, h2, f2⟩
        have HR : Hid (DlAns w A (d1.enter 2) pa pc (.returned (.tuple #[])) v2) := Lib.hid ⟨rfl, ⟨_, _, h2⟩, HF.out.trans f2⟩
        clear h2 f2
        go_wp2
        refine bodyPost_end (results_none rfl _ _ _) rfl ?_
        exact HR.out
      · have hR := HDD.out
        rw [if_neg hn] at hR
        subst hR
        clear HDD
        go_wp2_with fail
        refine HC.out.mono ?_
        rintro e v1 ⟨rfl, ⟨wa1, wc1, h1⟩, f1⟩
        rw [decide_eq_false hn]
        have HR : Hid (DlAns w A d1 pa pc (.returned (.tuple #[])) v1) := Lib.hid ⟨rfl, ⟨_, _, h1⟩, HF6.out.trans f1⟩
        clear h1 f1
        go_wp2
        refine bodyPost_end (results_none rfl _ _ _) rfl ?_
        exact HR.out
  · rw [if_neg he]
    have HE := Lib.hid (end_any HD.out 0 r.er)
    go_enter Try.func31, Try.ntmps31
    go_upto_region 1 with fail
    rw [← HW.out, HY.out]
    go_wp2_with fail
    refine HE.out.mono ?_
    rintro e v2 ⟨rfl, h2, f2⟩
    have HR : Hid (DlAns w A (d.fin 0 r.er) pa pc (.returned (.tuple #[])) v2) := Lib.hid ⟨rfl, ⟨_, _, h2⟩, (Fr.ofBelow _ HB.out).trans f2⟩
    clear h2 f2
    go_wp2
    refine bodyPost_end (results_none rfl _ _ _) rfl ?_
    exact HR.out
end
end Go.Proofs.Ytfokgalgdlajlaa
