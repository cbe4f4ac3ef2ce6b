import Derived.Test.YtkfnphhoebknnaaQCk
namespace Go.Proofs.Ytkfnphhoebknnaa
open Go.RowKit Go.Maps
section
variable {w : World}
set_option maxHeartbeats 1000000 in
set_option maxRecDepth 100000 in
theorem checkS_any {s : Sc} {tv : Value} (hL : Lr tbE 5 w s.tabs tv) (hI : ∀ t ∈ s.tabs, ∀ i ∈ idsT t, I64 i) : Calls Try.prog 16 #[scV s tv] w fun e w' => e = .returned (.int .i64 (if rightS s = true then 0 else 100)) ∧ Below w.heap.size w w' := by
  obtain ⟨ta, tc, rfl, hr0⟩ := hL
  have hL : Lr tbE 5 w s.tabs (.slice ta s.tabs.length tc) := ⟨ta, tc, rfl, hr0⟩
  obtain ⟨W, hW⟩ : ∃ W, W = w.alloc (.cells #[.int .i64 s.ver, .int .i64 s.last, .slice ta s.tabs.length tc] 24) := ⟨_, rfl⟩
  have hbW : Below w.heap.size w W := by rw [hW]; exact (Below.refl _ w).alloc (Nat.le_refl _) _
  obtain ⟨Y0, hY0⟩ : ∃ Y0, w.heap.size = Y0 := ⟨_, rfl⟩
  have jY0 : W.heap[Y0]? = some (.cells #[.int .i64 s.ver, .int .i64 s.last, .slice ta s.tabs.length tc] 24 (0, 0)) := by
    have := heap_alloc_new w (.cells #[.int .i64 s.ver, .int .i64 s.last, .slice ta s.tabs.length tc] 24)
    rw [hW, ← hY0]
    exact this
  have hr := right_sch (hL.on tbE_held hbW) hI
  have d0 : W.cell? ⟨Y0, 0, none⟩ = some (.int .i64 s.ver) := cell_blk jY0 0
  have d1 : W.cell? ⟨Y0, 1, none⟩ = some (.int .i64 s.last) := cell_blk jY0 1
  have d2 : W.cell? ⟨Y0, 2, none⟩ = some (.slice ta s.tabs.length tc) := cell_blk jY0 2
  have HW := Lib.hid hW
  have HBW := Lib.hid hbW
  have HY0 := Lib.hid hY0
  clear hW hbW hY0 jY0 hL hr0 hI
  obtain ⟨er, her⟩ : ∃ er : Int, er = (if rightS s = true then 0 else 100) := ⟨_, rfl⟩
  rw [← her]
  have HER := Lib.hid her
  clear her
  go_enter Try.func16, Try.ntmps16
  go_upto_region 1 with fail
  rw [← HW.out, HY0.out]
  cases q1 : rightS s with
  | false =>
    rw [q1] at hr
    have HE : Hid (er = 100) := by rw [HER.out, q1]; exact Lib.hid rfl
    clear q1
    go_wp2_with (go_at_call 35; refine hr.mono ?_; rintro e w1 ⟨rfl, b1⟩)
    go_ret
    exact ⟨by rw [HE.out]; rfl, bgo HBW.out b1⟩
  | true =>
    rw [q1] at hr
    have HE : Hid (er = 0) := by rw [HER.out, q1]; exact Lib.hid rfl
    clear q1
    go_wp2_with (go_at_call 35; refine hr.mono ?_; rintro e w1 ⟨rfl, b1⟩)
    go_ret
    exact ⟨by rw [HE.out]; rfl, bgo HBW.out b1⟩
end
end Go.Proofs.Ytkfnphhoebknnaa
