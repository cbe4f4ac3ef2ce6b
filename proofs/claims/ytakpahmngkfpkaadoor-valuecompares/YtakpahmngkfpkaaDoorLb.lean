/- The walk of the statement ValueCompares: it answers true at every two values. -/
import Derived.Test.YtakpahmngkfpkaaDoorWh
import Derived.Test.YtakpahmngkfpkaaDoorWi
import Derived.Deep.RegionHeld3
import Derived.Deep.DrawnRows
namespace Go.Proofs.YtakpahmngkfpkaaDoor
open Go.RowKit
attribute [local go_sem ↓] Go.wp_at_zero Go.wp_at_succ

theorem keep2 {w W w' : World} {x y z x' y' z' : Value} (h : (W.cell? ⟨w.heap.size, 0, none⟩ = some x ∧ W.cell? ⟨w.heap.size, 1, none⟩ = some y ∧ W.cell? ⟨w.heap.size, 2, none⟩ = some z ∧ W.cell? ⟨w.heap.size + 1, 0, none⟩ = some x' ∧ W.cell? ⟨w.heap.size + 1, 1, none⟩ = some y' ∧ W.cell? ⟨w.heap.size + 1, 2, none⟩ = some z') ∧ w.heap.size + 1 < W.heap.size ∧ Gd W ∧ Below w.heap.size w W) (hb : Below W.heap.size W w') :
    (w'.cell? ⟨w.heap.size, 0, none⟩ = some x ∧ w'.cell? ⟨w.heap.size, 1, none⟩ = some y ∧ w'.cell? ⟨w.heap.size, 2, none⟩ = some z ∧ w'.cell? ⟨w.heap.size + 1, 0, none⟩ = some x' ∧ w'.cell? ⟨w.heap.size + 1, 1, none⟩ = some y' ∧ w'.cell? ⟨w.heap.size + 1, 2, none⟩ = some z') ∧ w.heap.size + 1 < w'.heap.size ∧ Gd w' ∧ Below w.heap.size w w' := by
  have hc := (bcell hb).1
  have hz := hb.size
  obtain ⟨⟨a, b, c, a', b', c'⟩, hlt, hg, hw⟩ := h
  exact ⟨⟨by rw [hc _ _ (by omega)]; exact a, by rw [hc _ _ (by omega)]; exact b, by rw [hc _ _ (by omega)]; exact c, by rw [hc _ _ hlt]; exact a', by rw [hc _ _ hlt]; exact b', by rw [hc _ _ hlt]; exact c'⟩, by omega, hg.on hb, hw.trans (hb.mono (by omega))⟩

theorem start2 {w : World} {x y z x' y' z' : Value} (hg : Gd w) :
    ((((w.alloc (.cells #[x, y, z] 23)).alloc (.cells #[x', y', z'] 23)).drew.cell? ⟨w.heap.size, 0, none⟩ = some x ∧ ((w.alloc (.cells #[x, y, z] 23)).alloc (.cells #[x', y', z'] 23)).drew.cell? ⟨w.heap.size, 1, none⟩ = some y ∧ ((w.alloc (.cells #[x, y, z] 23)).alloc (.cells #[x', y', z'] 23)).drew.cell? ⟨w.heap.size, 2, none⟩ = some z ∧ ((w.alloc (.cells #[x, y, z] 23)).alloc (.cells #[x', y', z'] 23)).drew.cell? ⟨w.heap.size + 1, 0, none⟩ = some x' ∧ ((w.alloc (.cells #[x, y, z] 23)).alloc (.cells #[x', y', z'] 23)).drew.cell? ⟨w.heap.size + 1, 1, none⟩ = some y' ∧ ((w.alloc (.cells #[x, y, z] 23)).alloc (.cells #[x', y', z'] 23)).drew.cell? ⟨w.heap.size + 1, 2, none⟩ = some z') ∧ w.heap.size + 1 < ((w.alloc (.cells #[x, y, z] 23)).alloc (.cells #[x', y', z'] 23)).drew.heap.size ∧ Gd ((w.alloc (.cells #[x, y, z] 23)).alloc (.cells #[x', y', z'] 23)).drew ∧ Below w.heap.size w ((w.alloc (.cells #[x, y, z] 23)).alloc (.cells #[x', y', z'] 23)).drew) := by
  have hb : Below w.heap.size w ((w.alloc (.cells #[x, y, z] 23)).alloc (.cells #[x', y', z'] 23)).drew := (two_boxes w _ _).drew
  exact ⟨⟨by go_simp, by go_simp, by go_simp, by go_simp, by go_simp, by go_simp⟩, by simp, hg.on hb, hb⟩

set_option maxHeartbeats 2000000 in
theorem compares_any (k n : Int) (s : ByteArray) (k' n' : Int) (s' : ByteArray) (w : World) (hg : Gd w) (hs : s.size ≤ maxLen) (hs' : s'.size ≤ maxLen) :
    Calls Tryd.prog 4 #[.agg #[.int .i64 k, .int .i64 n, .string s], .agg #[.int .i64 k', .int .i64 n', .string s']] w fun e w' => e = .returned (.bool true) ∧ Below w.heap.size w w' := by
  go_enter Tryd.func4, Tryd.ntmps4
  go_wp2
  go_region_held3 (fun w' => (w'.cell? ⟨w.heap.size, 0, none⟩ = some (.int .i64 k) ∧ w'.cell? ⟨w.heap.size, 1, none⟩ = some (.int .i64 n) ∧ w'.cell? ⟨w.heap.size, 2, none⟩ = some (.string s) ∧ w'.cell? ⟨w.heap.size + 1, 0, none⟩ = some (.int .i64 k') ∧ w'.cell? ⟨w.heap.size + 1, 1, none⟩ = some (.int .i64 n') ∧ w'.cell? ⟨w.heap.size + 1, 2, none⟩ = some (.string s')) ∧ w.heap.size + 1 < w'.heap.size ∧ Gd w' ∧ Below w.heap.size w w') (first | exact start2 hg | exact keep2 (by assumption) (by assumption))
    (first
      | (go_at_call 9; refine (awake_any _ ?_).mono ?_; (exact (by assumption : _ ∧ _ ∧ Gd _ ∧ _).2.2.1); rintro e w' ⟨rfl, hbx⟩)
      | (go_at_call 12; refine (compare_any k n s k' n' s' _).mono ?_; rintro e w' ⟨rfl, hbx⟩)
      | (go_at_call 13; refine (refCompare_any k n s k' n' s' _ hs hs').mono ?_; rintro e w' ⟨rfl, hbx⟩))
  all_goals go_wp2
  all_goals go_ret
  all_goals exact ⟨rfl, (by assumption : _ ∧ _ ∧ Gd _ ∧ Below _ _ _).2.2.2⟩
end Go.Proofs.YtakpahmngkfpkaaDoor
