/- The walk of the statement ValueOrder: it answers true at every three values. -/
import Derived.Test.YtakpahmngkfpkaaDoorWh
import Derived.Test.YtakpahmngkfpkaaDoorZa
import Derived.Deep.RegionHeld3
import Derived.Deep.DrawnRows
namespace Go.Proofs.YtakpahmngkfpkaaDoor
open Go.RowKit
attribute [local go_sem ↓] Go.wp_at_zero Go.wp_at_succ

/-- Three boxes lie in W, as the call of w laid them. -/
abbrev Box3 (w : World) (a0 a1 a2 b0 b1 b2 c0 c1 c2 : Value) (W : World) : Prop :=
  (W.cell? ⟨w.heap.size, 0, none⟩ = some a0 ∧ W.cell? ⟨w.heap.size, 1, none⟩ = some a1 ∧ W.cell? ⟨w.heap.size, 2, none⟩ = some a2 ∧ W.cell? ⟨w.heap.size + 1, 0, none⟩ = some b0 ∧ W.cell? ⟨w.heap.size + 1, 1, none⟩ = some b1 ∧ W.cell? ⟨w.heap.size + 1, 2, none⟩ = some b2 ∧ W.cell? ⟨w.heap.size + 1 + 1, 0, none⟩ = some c0 ∧ W.cell? ⟨w.heap.size + 1 + 1, 1, none⟩ = some c1 ∧ W.cell? ⟨w.heap.size + 1 + 1, 2, none⟩ = some c2) ∧ w.heap.size + 1 + 1 < W.heap.size ∧ Gd W ∧ Below w.heap.size w W

theorem keep3 {w W w' : World} {a0 a1 a2 b0 b1 b2 c0 c1 c2 : Value} (h : Box3 w a0 a1 a2 b0 b1 b2 c0 c1 c2 W) (hb : Below W.heap.size W w') : Box3 w a0 a1 a2 b0 b1 b2 c0 c1 c2 w' := by
  have hc := (bcell hb).1
  have hz := hb.size
  obtain ⟨⟨x0, x1, x2, y0, y1, y2, z0, z1, z2⟩, hlt, hg, hw⟩ := h
  exact ⟨⟨by rw [hc _ _ (by omega)]; exact x0, by rw [hc _ _ (by omega)]; exact x1, by rw [hc _ _ (by omega)]; exact x2, by rw [hc _ _ (by omega)]; exact y0, by rw [hc _ _ (by omega)]; exact y1, by rw [hc _ _ (by omega)]; exact y2, by rw [hc _ _ (by omega)]; exact z0, by rw [hc _ _ (by omega)]; exact z1, by rw [hc _ _ (by omega)]; exact z2⟩, by omega, hg.on hb, hw.trans (hb.mono (by omega))⟩

theorem start3 {w : World} {a0 a1 a2 b0 b1 b2 c0 c1 c2 : Value} (hg : Gd w) : Box3 w a0 a1 a2 b0 b1 b2 c0 c1 c2 (((w.alloc (.cells #[a0, a1, a2] 23)).alloc (.cells #[b0, b1, b2] 23)).alloc (.cells #[c0, c1, c2] 23)).drew := by
  have hb : Below w.heap.size w (((w.alloc (.cells #[a0, a1, a2] 23)).alloc (.cells #[b0, b1, b2] 23)).alloc (.cells #[c0, c1, c2] 23)).drew := ((((Below.refl _ w).alloc (Nat.le_refl _) _).alloc (by simp) _).alloc (by simp; omega) _).drew
  exact ⟨⟨by go_simp, by go_simp, by go_simp, by go_simp, by go_simp, by go_simp, by go_simp, by go_simp, by go_simp⟩, by simp, hg.on hb, hb⟩

theorem ret_b {b : Bool} (h : b = true) : Ending.returned (.bool b) = .returned (.bool true) := by rw [h]

set_option maxHeartbeats 4000000 in
theorem order_apart (k n : Int) (s : ByteArray) (k' n' : Int) (s' : ByteArray) (k2 n2 : Int) (s2 : ByteArray) (w : World) (hg : Gd w)
    (HN : Hid (k = k' → n = n' → s.toList = s'.toList → False))
    (HX : Hid ((valCmp k n s k' n' s' = 1 ∧ valCmp k' n' s' k n s = -1 ∧ valCmp k' n' s' k2 n2 s2 < 0) ∨ (valCmp k n s k' n' s' = 1 ∧ valCmp k' n' s' k n s = -1 ∧ ¬ valCmp k' n' s' k2 n2 s2 < 0 ∧ 0 ≤ valCmp k n s k2 n2 s2) ∨
      (valCmp k n s k' n' s' = -1 ∧ valCmp k' n' s' k n s = 1 ∧ 0 < valCmp k' n' s' k2 n2 s2) ∨ (valCmp k n s k' n' s' = -1 ∧ valCmp k' n' s' k n s = 1 ∧ ¬ 0 < valCmp k' n' s' k2 n2 s2 ∧ valCmp k n s k2 n2 s2 ≤ 0))) :
    Calls Tryd.prog 8 #[.agg #[.int .i64 k, .int .i64 n, .string s], .agg #[.int .i64 k', .int .i64 n', .string s'], .agg #[.int .i64 k2, .int .i64 n2, .string s2]] w fun e w' => e = .returned (.bool true) ∧ Below w.heap.size w w' := by
  go_enter Tryd.func8, Tryd.ntmps8
  go_wp2
  go_region_held3 (fun w' => (w'.cell? ⟨w.heap.size, 0, none⟩ = some (.int .i64 k) ∧ w'.cell? ⟨w.heap.size, 1, none⟩ = some (.int .i64 n) ∧ w'.cell? ⟨w.heap.size, 2, none⟩ = some (.string s) ∧ w'.cell? ⟨w.heap.size + 1, 0, none⟩ = some (.int .i64 k') ∧ w'.cell? ⟨w.heap.size + 1, 1, none⟩ = some (.int .i64 n') ∧ w'.cell? ⟨w.heap.size + 1, 2, none⟩ = some (.string s') ∧ w'.cell? ⟨w.heap.size + 1 + 1, 0, none⟩ = some (.int .i64 k2) ∧ w'.cell? ⟨w.heap.size + 1 + 1, 1, none⟩ = some (.int .i64 n2) ∧ w'.cell? ⟨w.heap.size + 1 + 1, 2, none⟩ = some (.string s2)) ∧ w.heap.size + 1 + 1 < w'.heap.size ∧ Gd w' ∧ Below w.heap.size w w') (first | exact start3 hg | exact keep3 (by assumption) (by assumption))
    ((go_at_call 12; refine (compare_any _ _ _ _ _ _ _).mono ?_; rintro e w' ⟨rfl, hbx⟩))
  rename_i HB
  obtain ⟨⟨a0, a1, a2, b0, b1, b2, c0, c1, c2⟩, hlt, hG, hW⟩ := HB
  rcases HX.out with ⟨hx, hx', hy⟩ | ⟨hx, hx', hy, hz⟩ | ⟨hx, hx', hy⟩ | ⟨hx, hx', hy, hz⟩
  all_goals
    clear HX
    go_wp2_with (go_at_call 9; refine (awake_any _ hG).mono ?_; rintro e w1 ⟨rfl, hb1⟩; refine Hid.out ?_)
    refine Lib.hid ?_
    obtain ⟨⟨a0, a1, a2, b0, b1, b2, c0, c1, c2⟩, hlt, hG, hW⟩ := keep3 ⟨⟨a0, a1, a2, b0, b1, b2, c0, c1, c2⟩, hlt, hG, hW⟩ hb1
    go_wp2_with (go_at_call 12; refine (compare_any _ _ _ _ _ _ _).mono ?_; rintro e w2 ⟨rfl, hb2⟩; refine Hid.out ?_)
    refine Lib.hid ?_
    obtain ⟨⟨a0, a1, a2, b0, b1, b2, c0, c1, c2⟩, hlt, hG, hW⟩ := keep3 ⟨⟨a0, a1, a2, b0, b1, b2, c0, c1, c2⟩, hlt, hG, hW⟩ hb2
    go_wp2
  all_goals first
    | (exfalso; exact HN.out (by assumption) (by assumption) (by assumption))
    | (go_ret; exact ⟨rfl, hW⟩)
    | (go_ret; refine ⟨ret_b ?_, hW⟩; (try subst_vars); (try simp); omega)

set_option maxHeartbeats 4000000 in
theorem order_same (k n : Int) (s : ByteArray) (k2 n2 : Int) (s2 : ByteArray) (w : World) (hg : Gd w)
    (HX : Hid ((valCmp k n s k n s = 0 ∧ valCmp k n s k2 n2 s2 < 0) ∨ (valCmp k n s k n s = 0 ∧ valCmp k n s k2 n2 s2 = 0) ∨ (valCmp k n s k n s = 0 ∧ 0 < valCmp k n s k2 n2 s2))) :
    Calls Tryd.prog 8 #[.agg #[.int .i64 k, .int .i64 n, .string s], .agg #[.int .i64 k, .int .i64 n, .string s], .agg #[.int .i64 k2, .int .i64 n2, .string s2]] w fun e w' => e = .returned (.bool true) ∧ Below w.heap.size w w' := by
  go_enter Tryd.func8, Tryd.ntmps8
  go_wp2
  go_region_held3 (fun w' => (w'.cell? ⟨w.heap.size, 0, none⟩ = some (.int .i64 k) ∧ w'.cell? ⟨w.heap.size, 1, none⟩ = some (.int .i64 n) ∧ w'.cell? ⟨w.heap.size, 2, none⟩ = some (.string s) ∧ w'.cell? ⟨w.heap.size + 1, 0, none⟩ = some (.int .i64 k) ∧ w'.cell? ⟨w.heap.size + 1, 1, none⟩ = some (.int .i64 n) ∧ w'.cell? ⟨w.heap.size + 1, 2, none⟩ = some (.string s) ∧ w'.cell? ⟨w.heap.size + 1 + 1, 0, none⟩ = some (.int .i64 k2) ∧ w'.cell? ⟨w.heap.size + 1 + 1, 1, none⟩ = some (.int .i64 n2) ∧ w'.cell? ⟨w.heap.size + 1 + 1, 2, none⟩ = some (.string s2)) ∧ w.heap.size + 1 + 1 < w'.heap.size ∧ Gd w' ∧ Below w.heap.size w w') (first | exact start3 hg | exact keep3 (by assumption) (by assumption))
    ((go_at_call 12; refine (compare_any _ _ _ _ _ _ _).mono ?_; rintro e w' ⟨rfl, hbx⟩))
  rename_i HB
  obtain ⟨⟨a0, a1, a2, b0, b1, b2, c0, c1, c2⟩, hlt, hG, hW⟩ := HB
  rcases HX.out with ⟨hx, hy⟩ | ⟨hx, hy⟩ | ⟨hx, hy⟩
  all_goals
    clear HX
    go_wp2_with (go_at_call 9; refine (awake_any _ hG).mono ?_; rintro e w1 ⟨rfl, hb1⟩; refine Hid.out ?_)
    refine Lib.hid ?_
    obtain ⟨⟨a0, a1, a2, b0, b1, b2, c0, c1, c2⟩, hlt, hG, hW⟩ := keep3 ⟨⟨a0, a1, a2, b0, b1, b2, c0, c1, c2⟩, hlt, hG, hW⟩ hb1
    go_wp2_with (go_at_call 12; refine (compare_any _ _ _ _ _ _ _).mono ?_; rintro e w2 ⟨rfl, hb2⟩; refine Hid.out ?_)
    refine Lib.hid ?_
    obtain ⟨⟨a0, a1, a2, b0, b1, b2, c0, c1, c2⟩, hlt, hG, hW⟩ := keep3 ⟨⟨a0, a1, a2, b0, b1, b2, c0, c1, c2⟩, hlt, hG, hW⟩ hb2
    go_wp2
  all_goals first
    | (go_ret; exact ⟨rfl, hW⟩)
    | (go_ret; refine ⟨ret_b ?_, hW⟩; (try subst_vars); (try simp); omega)
end Go.Proofs.YtakpahmngkfpkaaDoor
