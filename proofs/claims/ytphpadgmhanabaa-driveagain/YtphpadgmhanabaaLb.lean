/- The walks of the statements' awake and of DriveNil. -/
import Derived.Test.YtphpadgmhanabaaLa
namespace Go.Proofs.Ytphpadgmhanabaa
open Go.RowKit Go.Maps

theorem ints_one (w : World) (x : Int) : Ints (w.alloc (.cells #[.int .i64 x] 3)) (.slice (some ⟨w.heap.size, 0, none⟩) 1 1) [x] := by
  refine ⟨_, 1, rfl, by simp [maxLen], fun i hi => ⟨w.heap.size, 0, rfl, by simp, ?_⟩⟩
  have : i = 0 := by simp at hi; omega
  subst this
  rw [cell_blk (heap_alloc_new w _)]
  rfl

set_option maxHeartbeats 2000000 in
set_option maxRecDepth 100000 in
theorem awake_any (w : World) : Calls Try.prog 8 #[] w fun e w' => e = .returned (.bool true) ∧ Below w.heap.size w w' := by
  go_enter Try.func8, Try.ntmps8
  go_wp2_with fail
  refine (own_new (Below.refl _ w)).mono ?_
  rintro e w1 ⟨A, rfl, h1⟩
  go_wp2_with fail
  refine (own_append h1 (n := nA) (d := ⟨#[120, 121]⟩) (by decide) (by decide) (by omega)).mono ?_
  rintro e w2 ⟨rfl, h2⟩
  rw [wake1] at h2
  go_wp2_with fail
  refine (own_sync h2 (n := nA) (by decide) (by omega)).mono ?_
  rintro e w3 ⟨rfl, h3⟩
  have h3' : Own w w3 A 2 [⟨nA, ⟨#[120, 121]⟩, 2⟩] 0 false := h3
  clear h3
  go_wp2_with fail
  refine (own_append h3' (n := nA) (d := ⟨#[122]⟩) (by decide) (by decide) (by omega)).mono ?_
  rintro e w4 ⟨rfl, h4⟩
  rw [wake3] at h4
  have h5 := h4.on (w' := w4.alloc (.cells #[.int .i64 1] 3)) ((Below.refl _ _).alloc (Nat.le_refl _) _)
  go_wp2_with fail
  refine (own_crash h5 (ints_one w4 1)).mono ?_
  rintro e w6 ⟨B, rfl, h6, _⟩
  rw [wake4] at h6
  go_wp2_with fail
  refine (own_read h6 (n := nA) (by decide)).mono ?_
  rintro e w7 ⟨rfl, rfl⟩
  rw [wake5]
  go_wp2_with fail
  refine (own_arm h6 (m := 1) (by omega)).mono ?_
  rintro e w8 ⟨rfl, h8⟩
  have h8' : Own w w8 B 1 [⟨nA, ⟨#[120, 121, 122]⟩, 3⟩] 1 false := h8
  clear h8
  go_wp2_with fail
  refine (own_append h8' (n := nA) (d := ⟨#[113]⟩) (by decide) (by decide) (by omega)).mono ?_
  rintro e w9 ⟨rfl, h9⟩
  have h9' : Own w w9 B 2 (appF [⟨nA, ⟨#[120, 121, 122]⟩, 3⟩] nA ⟨#[113]⟩) 0 true := h9
  clear h9
  rw [show pw (downB 1 false) = 50 from rfl]
  go_wp2_with fail
  refine (own_down h9').mono ?_
  rintro e w10 ⟨rfl, rfl⟩
  go_wp2
  go_ret
  exact ⟨rfl, h9'.below⟩

set_option maxHeartbeats 2000000 in
set_option maxRecDepth 100000 in
theorem nil_law (n d : ByteArray) (m : Int) (w : World) : Calls Try.prog 7 #[.string n, .string d, .int .i64 m] w fun e w' => e = .returned (.bool true) ∧ Below w.heap.size w w' := by
  go_enter Try.func7, Try.ntmps7
  go_wp2_with fail
  refine (arm_nil m w).mono ?_
  rintro e w1 ⟨rfl, rfl⟩
  go_wp2_with fail
  refine (read_nil n w1).mono ?_
  rintro e w2 ⟨rfl, rfl⟩
  go_wp2_with fail
  refine (awake_any w2).mono ?_
  rintro e w3 ⟨rfl, hb⟩
  go_wp2_with fail
  refine (append_nil n d w3).mono ?_
  rintro e w4 ⟨rfl, rfl⟩
  go_wp2_with fail
  refine (sync_nil n w4).mono ?_
  rintro e w5 ⟨rfl, rfl⟩
  go_wp2_with fail
  refine (swap_nil n d w5).mono ?_
  rintro e w6 ⟨rfl, rfl⟩
  go_wp2_with fail
  refine (down_nil w6).mono ?_
  rintro e w7 ⟨rfl, rfl⟩
  go_wp2_with fail
  refine (names_nil w7).mono ?_
  rintro e w8 ⟨rfl, rfl⟩
  go_wp2_with fail
  refine (crash_nil _ w8).mono ?_
  rintro e w9 ⟨rfl, rfl⟩
  go_wp2
  go_ret
  exact ⟨rfl, hb⟩
end Go.Proofs.Ytphpadgmhanabaa
