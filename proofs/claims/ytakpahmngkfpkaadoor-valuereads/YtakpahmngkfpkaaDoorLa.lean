/- The walks of the statements ValueChecks and ValueCompares: each answers true at every input. -/
import Derived.Test.YtakpahmngkfpkaaDoorWh
import Derived.Deep.RegionHeld3
import Derived.Deep.DrawnRows
namespace Go.Proofs.YtakpahmngkfpkaaDoor
open Go.RowKit
attribute [local go_sem ↓] Go.wp_at_zero Go.wp_at_succ

theorem keep1 {w W w' : World} {x y z : Value} (h : (W.cell? ⟨w.heap.size, 0, none⟩ = some x ∧ W.cell? ⟨w.heap.size, 1, none⟩ = some y ∧ W.cell? ⟨w.heap.size, 2, none⟩ = some z) ∧ w.heap.size < W.heap.size ∧ Gd W ∧ Below w.heap.size w W) (hb : Below W.heap.size W w') :
    (w'.cell? ⟨w.heap.size, 0, none⟩ = some x ∧ w'.cell? ⟨w.heap.size, 1, none⟩ = some y ∧ w'.cell? ⟨w.heap.size, 2, none⟩ = some z) ∧ w.heap.size < w'.heap.size ∧ Gd w' ∧ Below w.heap.size w w' := by
  have hc := (bcell hb).1
  have hz := hb.size
  obtain ⟨⟨a, b, c⟩, hlt, hg, hw⟩ := h
  exact ⟨⟨by rw [hc _ _ hlt]; exact a, by rw [hc _ _ hlt]; exact b, by rw [hc _ _ hlt]; exact c⟩, by omega, hg.on hb, hw.trans (hb.mono (by omega))⟩

theorem start1 {w : World} {x y z : Value} (hg : Gd w) :
    ((w.alloc (.cells #[x, y, z] 23)).drew.cell? ⟨w.heap.size, 0, none⟩ = some x ∧ (w.alloc (.cells #[x, y, z] 23)).drew.cell? ⟨w.heap.size, 1, none⟩ = some y ∧ (w.alloc (.cells #[x, y, z] 23)).drew.cell? ⟨w.heap.size, 2, none⟩ = some z) ∧ w.heap.size < (w.alloc (.cells #[x, y, z] 23)).drew.heap.size ∧ Gd (w.alloc (.cells #[x, y, z] 23)).drew ∧ Below w.heap.size w (w.alloc (.cells #[x, y, z] 23)).drew := by
  have hb : Below w.heap.size w (w.alloc (.cells #[x, y, z] 23)).drew := ((Below.refl _ w).alloc (Nat.le_refl _) _).drew
  exact ⟨⟨by go_simp, by go_simp, by go_simp⟩, by simp, hg.on hb, hb⟩

theorem check_t (k n : Int) (s : ByteArray) (w : World) (hr : rightB k n s = true) :
    Calls Tryd.prog 10 #[.agg #[.int .i64 k, .int .i64 n, .string s]] w fun e w' => e = .returned (.int .i64 0) ∧ Below w.heap.size w w' := by
  have := check_any k n s w
  rw [hr] at this
  exact this
theorem check_f (k n : Int) (s : ByteArray) (w : World) (hr : rightB k n s = false) :
    Calls Tryd.prog 10 #[.agg #[.int .i64 k, .int .i64 n, .string s]] w fun e w' => e = .returned (.int .i64 10) ∧ Below w.heap.size w w' := by
  have := check_any k n s w
  rw [hr] at this
  exact this
theorem right_at (k n : Int) (s : ByteArray) (w : World) (b : Bool) (hr : rightB k n s = b) :
    Calls Tryd.prog 11 #[.agg #[.int .i64 k, .int .i64 n, .string s]] w fun e w' => e = .returned (.bool b) ∧ Below w.heap.size w w' := by
  have := right_any k n s w
  rw [hr] at this
  exact this

set_option maxHeartbeats 2000000 in
theorem checks_yes (k n : Int) (s : ByteArray) (w : World) (hg : Gd w) (hr : rightB k n s = true) :
    Calls Tryd.prog 3 #[.agg #[.int .i64 k, .int .i64 n, .string s]] w fun e w' => e = .returned (.bool true) ∧ Below w.heap.size w w' := by
  go_enter Tryd.func3, Tryd.ntmps3
  go_wp2
  obtain ⟨⟨c0, c1, c2⟩, hlt, hG, hw⟩ := start1 (x := .int .i64 k) (y := .int .i64 n) (z := .string s) hg
  go_region_with (first
      | (go_at_call 9; refine (awake_any _ hG).mono ?_; rintro e w' ⟨rfl, hbx⟩; obtain ⟨⟨c0, c1, c2⟩, hlt, hG, hw⟩ := keep1 ⟨⟨c0, c1, c2⟩, hlt, hG, hw⟩ hbx)
      | (go_at_call 10; refine (check_t _ _ _ _ hr).mono ?_; rintro e w' ⟨rfl, hbx⟩; obtain ⟨⟨c0, c1, c2⟩, hlt, hG, hw⟩ := keep1 ⟨⟨c0, c1, c2⟩, hlt, hG, hw⟩ hbx)
      | (go_at_call 11; refine (right_at _ _ _ _ true hr).mono ?_; rintro e w' ⟨rfl, hbx⟩; obtain ⟨⟨c0, c1, c2⟩, hlt, hG, hw⟩ := keep1 ⟨⟨c0, c1, c2⟩, hlt, hG, hw⟩ hbx))
  all_goals go_wp2
  all_goals go_ret
  all_goals exact ⟨rfl, by assumption⟩
set_option maxHeartbeats 2000000 in
theorem checks_no (k n : Int) (s : ByteArray) (w : World) (hg : Gd w) (hr : rightB k n s = false) :
    Calls Tryd.prog 3 #[.agg #[.int .i64 k, .int .i64 n, .string s]] w fun e w' => e = .returned (.bool true) ∧ Below w.heap.size w w' := by
  go_enter Tryd.func3, Tryd.ntmps3
  go_wp2
  obtain ⟨⟨c0, c1, c2⟩, hlt, hG, hw⟩ := start1 (x := .int .i64 k) (y := .int .i64 n) (z := .string s) hg
  go_region_with (first
      | (go_at_call 9; refine (awake_any _ hG).mono ?_; rintro e w' ⟨rfl, hbx⟩; obtain ⟨⟨c0, c1, c2⟩, hlt, hG, hw⟩ := keep1 ⟨⟨c0, c1, c2⟩, hlt, hG, hw⟩ hbx)
      | (go_at_call 10; refine (check_f _ _ _ _ hr).mono ?_; rintro e w' ⟨rfl, hbx⟩; obtain ⟨⟨c0, c1, c2⟩, hlt, hG, hw⟩ := keep1 ⟨⟨c0, c1, c2⟩, hlt, hG, hw⟩ hbx)
      | (go_at_call 11; refine (right_at _ _ _ _ false hr).mono ?_; rintro e w' ⟨rfl, hbx⟩; obtain ⟨⟨c0, c1, c2⟩, hlt, hG, hw⟩ := keep1 ⟨⟨c0, c1, c2⟩, hlt, hG, hw⟩ hbx))
  all_goals go_wp2
  all_goals go_ret
  all_goals exact ⟨rfl, by assumption⟩

theorem checks_any (k n : Int) (s : ByteArray) (w : World) (hg : Gd w) :
    Calls Tryd.prog 3 #[.agg #[.int .i64 k, .int .i64 n, .string s]] w fun e w' => e = .returned (.bool true) ∧ Below w.heap.size w w' := by
  cases hr : rightB k n s
  · exact checks_no k n s w hg hr
  · exact checks_yes k n s w hg hr
end Go.Proofs.YtakpahmngkfpkaaDoor
