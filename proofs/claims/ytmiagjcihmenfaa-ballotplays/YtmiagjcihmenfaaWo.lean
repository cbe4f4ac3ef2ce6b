/- The walk of the document's Delta of a ballot that was not touched. -/
import Derived.Test.YtmiagjcihmenfaaWn
namespace Go.Proofs.Ytmiagjcihmenfaa
open Go.RowKit

section
variable {w w' W V : World} {A : Nat} {S T : Nat → Prop} {b c : Bs}
set_option maxHeartbeats 4000000 in
set_option maxRecDepth 100000 in
theorem refdelta_no (h : Rb w A S b) (ht : b.touched = false) : Calls Try.prog 18 #[.pointer (some ⟨A, 0, none⟩)] w fun e w' => e = .returned (.tuple #[.agg #[.int .i64 0, .int .i64 0, .bool false, .int .i64 0, .int .i64 0, .string ⟨#[]⟩, .int .i64 0, .slice none 0 0], .bool false]) ∧ Below w.heap.size w w' := by
  obtain ⟨W, hW⟩ : ∃ W, W = w.alloc (.cells #[.int .i64 0, .int .i64 0, .bool false, .int .i64 0, .int .i64 0, .string ⟨#[]⟩, .int .i64 0, .slice none 0 0] 44) := ⟨_, rfl⟩
  have hb : Below w.heap.size w W := by rw [hW]; exact (Below.refl _ w).alloc (Nat.le_refl _) _
  have hA := h.on hb
  obtain ⟨lv, ov, O, hv⟩ := hA
  have c26 : W.cell? ⟨A, 26, none⟩ = some (.bool false) := by rw [← ht]; exact hv.cell 26
  have HW := Lib.hid hW
  have HB := Lib.hid hb
  clear hv hW hb ht h
  go_enter Try.func18, Try.ntmps18
  go_upto_region 1 with fail
  rw [← HW.out]
  go_upto_region 2 with fail
  rw [HW.out]
  go_wp2
  refine bodyPost_ret (v := .tuple #[.agg #[.int .i64 0, .int .i64 0, .bool false, .int .i64 0, .int .i64 0, .string ⟨#[]⟩, .int .i64 0, .slice none 0 0], .bool false]) (by simp [results, Try.results18, go_sem]) rfl ?_
  exact ⟨rfl, HW.out ▸ HB.out⟩
end
end Go.Proofs.Ytmiagjcihmenfaa
