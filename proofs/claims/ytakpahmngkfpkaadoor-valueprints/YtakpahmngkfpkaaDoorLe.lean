/- The walk of the statement ValuePrints: it answers true at every value. -/
import Derived.Test.YtakpahmngkfpkaaDoorWh
import Derived.Test.YtakpahmngkfpkaaDoorWk
namespace Go.Proofs.YtakpahmngkfpkaaDoor
open Go.RowKit

set_option maxHeartbeats 1000000 in
theorem prints_at (k n : Int) (s r : ByteArray) (x : Int) (w : World) (hg : Gd w)
    (h1 : ∀ w, Gd w → Calls Tryd.prog 14 #[.agg #[.int .i64 k, .int .i64 n, .string s]] w fun e w' => e = .returned (.tuple #[.string r, .int .i64 x]) ∧ Below w.heap.size w w')
    (h2 : ∀ w, Calls Tryd.prog 15 #[.agg #[.int .i64 k, .int .i64 n, .string s]] w fun e w' => e = .returned (.tuple #[.string r, .int .i64 x]) ∧ Below w.heap.size w w') :
    Calls Tryd.prog 5 #[.agg #[.int .i64 k, .int .i64 n, .string s]] w fun e w' => e = .returned (.bool true) ∧ Below w.heap.size w w' := by
  have H1 := Lib.hid h1
  have H2 := Lib.hid h2
  clear h1 h2
  go_enter Tryd.func5, Tryd.ntmps5
  go_wp2_with (go_at_call 14; refine (H1.out _ (hg.on ((Below.refl _ w).alloc (Nat.le_refl _) _))).mono ?_; rintro e w1 ⟨rfl, hb1⟩; refine Hid.out ?_)
  refine Lib.hid ?_
  obtain ⟨c0, c1, c2, hz⟩ := box_cells hb1
  have hbw : Below w.heap.size w w1 := ((Below.refl _ w).alloc (Nat.le_refl _) _).trans (hb1.mono (by simp))
  go_wp2_with (go_at_call 15; refine (H2.out _).mono ?_; rintro e w2 ⟨rfl, hb2⟩; refine Hid.out ?_)
  refine Lib.hid ?_
  have hbw2 : Below w.heap.size w w2 := hbw.trans (hb2.mono (by omega))
  go_wp2_with (go_at_call 9; refine (awake_any _ (hg.on hbw2)).mono ?_; rintro e w3 ⟨rfl, hb3⟩; refine Hid.out ?_)
  refine Lib.hid ?_
  have hz2 := hbw2.size
  go_wp2
  go_ret
  exact ⟨rfl, hbw2.trans (hb3.mono hz2)⟩

theorem prints_any (k n : Int) (s : ByteArray) (w : World) (hg : Gd w) (h0 : -9223372036854775808 ≤ n) (h1 : n ≤ 9223372036854775807) :
    Calls Tryd.prog 5 #[.agg #[.int .i64 k, .int .i64 n, .string s]] w fun e w' => e = .returned (.bool true) ∧ Below w.heap.size w w' := by
  cases hr : rightB k n s
  · exact prints_at k n s ⟨#[]⟩ 10 w hg (fun w _ => print_no k n s w hr) (fun w => refPrint_no k n s w hr)
  · exact prints_at k n s ⟨(prt k n s).toArray⟩ 0 w hg (fun w hg => print_yes k n s w hg h0 h1 hr) (fun w => refPrint_yes k n s w h0 h1 hr)
end Go.Proofs.YtakpahmngkfpkaaDoor
