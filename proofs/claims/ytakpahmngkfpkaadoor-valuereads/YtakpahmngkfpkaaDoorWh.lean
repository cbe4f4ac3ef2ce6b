/- The walk of the statements' own awake: it answers true. -/
import Derived.Test.YtakpahmngkfpkaaDoorWc
import Derived.Test.YtakpahmngkfpkaaDoorWg
namespace Go.Proofs.YtakpahmngkfpkaaDoor
open Go.RowKit

theorem aw_print (w : World) : Calls Tryd.prog 14 #[.agg #[.int .i64 2, .int .i64 0, .string ⟨#[105, 116, 39, 115]⟩]] w fun e w' => e = .returned (.tuple #[.string ⟨#[39, 105, 116, 39, 39, 115, 39]⟩, .int .i64 0]) ∧ Below w.heap.size w w' :=
  print_text 0 ⟨#[105, 116, 39, 115]⟩ w (by decide) (by decide +kernel)

theorem itoa5 : Lib.itoa (-5) = [45, 53] := by decide +kernel
theorem itoa5' : Lib.itoa 5 = [53] := by decide +kernel
theorem parse5 : Lib.parseIntB 64 [45, 53] = .ok (-5) := by decide +kernel
theorem parse05 : Lib.parseIntB 64 [48, 53] = .ok 5 := by decide +kernel

theorem aw_read (w : World) (hg : Gd w) : Calls Tryd.prog 16 #[.string ⟨#[45, 53]⟩] w fun e w' => e = .returned (.tuple #[.agg #[.int .i64 1, .int .i64 (-5), .string ⟨#[]⟩], .int .i64 0]) ∧ Below w.heap.size w w' :=
  read_yes ⟨#[45, 53]⟩ 1 (-5) ⟨#[]⟩ w hg (by decide +kernel) (by decide) (by decide) (by decide)
    (fun w _ => guess_int ⟨#[45, 53]⟩ w (by decide) (by decide) (by decide +kernel) (by decide +kernel) (-5) parse5) (by decide +kernel) (by decide +kernel)

theorem aw_read2 (w : World) (hg : Gd w) : Calls Tryd.prog 16 #[.string ⟨#[48, 53]⟩] w fun e w' => e = .returned (.tuple #[.agg #[.int .i64 0, .int .i64 0, .string ⟨#[]⟩], .int .i64 10]) ∧ Below w.heap.size w w' :=
  read_other ⟨#[48, 53]⟩ 1 5 ⟨#[]⟩ w hg (by decide +kernel) (by decide) (by decide) (by decide)
    (fun w _ => guess_int ⟨#[48, 53]⟩ w (by decide) (by decide) (by decide +kernel) (by decide +kernel) 5 parse05) (by decide +kernel) (by decide +kernel)

theorem aw_compare (w : World) : Calls Tryd.prog 12 #[.agg #[.int .i64 0, .int .i64 0, .string ⟨#[]⟩], .agg #[.int .i64 1, .int .i64 0, .string ⟨#[]⟩]] w fun e w' => e = .returned (.int .i64 (-1)) ∧ Below w.heap.size w w' :=
  compare_any 0 0 ⟨#[]⟩ 1 0 ⟨#[]⟩ w

set_option maxHeartbeats 2000000 in
theorem awake_any (w : World) (hg : Gd w) : Calls Tryd.prog 9 #[] w fun e w' => e = .returned (.bool true) ∧ Below w.heap.size w w' := by
  go_enter Tryd.func9, Tryd.ntmps9
  go_wp2_with (go_at_call 14; refine (aw_print _).mono ?_; rintro e w1 ⟨rfl, hb1⟩; refine Hid.out ?_)
  refine Lib.hid ?_
  have hg1 := hg.on hb1
  go_wp2_with (go_at_call 16; refine (aw_read _ hg1).mono ?_; rintro e w2 ⟨rfl, hb2⟩; refine Hid.out ?_)
  refine Lib.hid ?_
  have hg2 := hg1.on hb2
  have hg3 := hg2.on ((Below.refl _ w2).alloc (Nat.le_refl _) (.cells #[.int .i64 1, .int .i64 (-5), .string ⟨#[]⟩] 23))
  go_wp2_with (go_at_call 16; refine (aw_read2 _ hg3).mono ?_; rintro e w3 ⟨rfl, hb3⟩; refine Hid.out ?_)
  refine Lib.hid ?_
  obtain ⟨c0, c1, c2, hlt⟩ := box_cells hb3
  go_wp2_with (go_at_call 12; refine (aw_compare _).mono ?_; rintro e w4 ⟨rfl, hb4⟩; refine Hid.out ?_)
  refine Lib.hid ?_
  go_wp2
  go_ret
  have z1 := hb1.size
  have z2 := hb2.size
  have z3 := hb3.size
  simp at z3
  refine ⟨rfl, ?_⟩
  refine Below.trans ?_ (hb4.mono (by simp; omega))
  refine Below.alloc ?_ (by omega) _
  refine Below.trans ?_ (hb3.mono (by simp; omega))
  refine Below.alloc ?_ (by omega) _
  exact hb1.trans (hb2.mono (by omega))
end Go.Proofs.YtakpahmngkfpkaaDoor
