/- The walks of the drive's count, Down, Arm and set. -/
import Derived.Test.YtoipmpaebngppaaDWb
namespace Go.Proofs.Ytoipmpaebngppaa
open Go.RowKit Go.Maps

/-- What is left to count behind an operation, and whether the power is off then. -/
def leftB (left : Int) : Int := if 0 < left then left - 1 else left
def downB (left : Int) (down : Bool) : Bool := if 0 < left then decide (left = 1) else down

section
variable {w : World} {A N : Nat} {S : Nat → Prop} {F : List Fl} {left : Int} {down : Bool} {mv : Value} {loc : ByteArray → Value}
set_option maxHeartbeats 1000000 in
theorem count_any (h : Dv w A S N F left down mv loc) : Calls Try.prog 39 #[.pointer (some ⟨A, 0, none⟩)] w fun e w' => e = .returned (.int .i64 (pw (downB left down))) ∧ Dv w' A S N F (leftB left) (downB left down) mv loc ∧ Fr w w' S ∧ w'.heap.size = w.heap.size := by
  have h1 := h.c1
  have h2 := h.c2
  have f1 := frozen_blk h.ob 1
  have f2 := frozen_blk h.ob 2
  by_cases hl : 0 < left
  · obtain ⟨w1, hw1⟩ : ∃ w1, w1 = (w.setCell ⟨A, 1, none⟩ (.int .i64 (left - 1))).setCell ⟨A, 2, none⟩ (.bool (decide (left = 1))) := ⟨_, rfl⟩
    have hb1 : w1.heap[A]? = some (drO mv (left - 1) (decide (left = 1))) := by
      rw [hw1, set_blk (set_blk h.ob _)]
      rfl
    have hfr : Fr w w1 (fun k => k = A) := by rw [hw1]; exact (Fr.set (S := fun k => k = A) (Fr.set (S := fun k => k = A) (Fr.refl w _) (.inl rfl) _) (.inl rfl) _)
    have hsz : w1.heap.size = w.heap.size := by rw [hw1]; simp
    have hd1 : Dv w1 A S N F (left - 1) (decide (left = 1)) mv loc := h.turn hfr hb1 (by have := h.int; omega)
    have hp := power_any hd1
    have e1 : leftB left = left - 1 := if_pos hl
    have e2 : downB left down = decide (left = 1) := if_pos hl
    rw [e1, e2]
    have hi := h.int
    have h63 := hi.2
    have ed : (left - 1 == 0) = decide (left = 1) := by
      by_cases q : left = 1
      · simp [q]
      · have : ¬ left - 1 = 0 := by omega
        simp [q, this]
    obtain ⟨p, hpd⟩ : ∃ p, decide (left = 1) = p := ⟨_, rfl⟩
    rw [hpd] at hw1 hd1 hp ed
    rw [hpd]
    have HW := Lib.hid hw1
    have HP := Lib.hid hpd
    clear hw1 hpd e1 e2
    go_enter Try.func39, Try.ntmps39
    go_wp2_with fail
    rw [← HW.out]
    refine hp.mono ?_
    rintro e w' ⟨rfl, rfl⟩
    go_wp2
    go_ret
    exact ⟨rfl, hd1, hfr.mono (fun k hk => by rw [hk]; exact h.covA), hsz⟩
  · have hp := power_any h
    have e1 : leftB left = left := if_neg hl
    have e2 : downB left down = down := if_neg hl
    rw [e1, e2]
    go_enter Try.func39, Try.ntmps39
    go_wp2_with fail
    refine hp.mono ?_
    rintro e w' ⟨rfl, rfl⟩
    go_wp2
    go_ret
    exact ⟨rfl, h, Fr.refl _ _, rfl⟩

theorem down_any (h : Dv w A S N F left down mv loc) : Calls Try.prog 23 #[.pointer (some ⟨A, 0, none⟩)] w fun e w' => e = .returned (.bool down) ∧ w' = w := by
  have hp := power_any h
  go_enter Try.func23, Try.ntmps23
  go_wp2_with fail
  refine hp.mono ?_
  rintro e w' ⟨rfl, rfl⟩
  cases down
  all_goals
    simp only [pw]
    go_wp2
    go_ret
    exact ⟨rfl, rfl⟩
theorem down_nil (w : World) : Calls Try.prog 23 #[.pointer none] w fun e w' => e = .returned (.bool true) ∧ w' = w := by
  go_enter Try.func23, Try.ntmps23
  go_wp2_with fail
  refine (power_nil w).mono ?_
  rintro e w' ⟨rfl, rfl⟩
  go_wp2
  go_ret
  exact ⟨rfl, rfl⟩
theorem arm_nil (n : Int) (w : World) : Calls Try.prog 16 #[.pointer none, .int .i64 n] w fun e w' => e = .returned (.tuple #[]) ∧ w' = w := by
  go_enter Try.func16, Try.ntmps16
  go_wp2_with fail
  refine (power_nil w).mono ?_
  rintro e w' ⟨rfl, rfl⟩
  go_wp2
  go_end0
  exact ⟨rfl, rfl⟩
theorem arm_any (h : Dv w A S N F left down mv loc) {n : Int} (hn : -9223372036854775808 ≤ n ∧ n ≤ 9223372036854775807) : Calls Try.prog 16 #[.pointer (some ⟨A, 0, none⟩), .int .i64 n] w fun e w' => e = .returned (.tuple #[]) ∧ Dv w' A S N F (if down then left else n) down mv loc ∧ Fr w w' S ∧ w'.heap.size = w.heap.size := by
  have hp := power_any h
  have h1 := h.c1
  have f1 := frozen_blk h.ob 1
  obtain ⟨L, hL⟩ : ∃ L, (if down then left else n) = L := ⟨_, rfl⟩
  rw [hL]
  have HL := Lib.hid hL
  clear hL
  go_enter Try.func16, Try.ntmps16
  go_wp2_with fail
  refine hp.mono ?_
  rintro e w' ⟨rfl, rfl⟩
  cases down
  · rw [show pw false = 0 from rfl]
    go_wp2
    go_end0
    have e : n = L := HL.out
    subst e
    have hfr : Fr w' (w'.setCell ⟨A, 1, none⟩ (.int .i64 n)) (fun k => k = A) := Fr.set (S := fun k => k = A) (Fr.refl w' _) (.inl rfl) _
    exact ⟨rfl, h.turn hfr (by rw [set_blk h.ob]; rfl) hn, hfr.mono (fun k hk => by rw [hk]; exact h.covA), by simp⟩
  · rw [show pw true = 50 from rfl]
    go_wp2
    go_end0
    have e : left = L := HL.out
    subst e
    exact ⟨rfl, h, Fr.refl _ _, rfl⟩
end
end Go.Proofs.Ytoipmpaebngppaa
