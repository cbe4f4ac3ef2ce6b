/- The walk of the statement ValueReads: it answers true at every text. -/
import Derived.Test.YtakpahmngkfpkaaDoorLf
import Derived.Test.YtakpahmngkfpkaaDoorWp
namespace Go.Proofs.YtakpahmngkfpkaaDoor
open Go.RowKit

set_option maxHeartbeats 1000000 in
theorem reads_at (t : ByteArray) (k n : Int) (b : ByteArray) (x : Int) (w : World) (hg : Gd w)
    (h1 : ∀ w, Gd w → Calls Tryd.prog 16 #[.string t] w fun e w' => e = .returned (.tuple #[.agg #[.int .i64 k, .int .i64 n, .string b], .int .i64 x]) ∧ Below w.heap.size w w')
    (h2 : ∀ w, Calls Tryd.prog 17 #[.string t] w fun e w' => e = .returned (.tuple #[.agg #[.int .i64 k, .int .i64 n, .string b], .int .i64 x]) ∧ Below w.heap.size w w') :
    Calls Tryd.prog 6 #[.string t] w fun e w' => e = .returned (.bool true) ∧ Below w.heap.size w w' := by
  have H1 := Lib.hid h1
  have H2 := Lib.hid h2
  clear h1 h2
  go_enter Tryd.func6, Tryd.ntmps6
  go_wp2_with (go_at_call 16; refine (H1.out _ hg).mono ?_; rintro e w1 ⟨rfl, hb1⟩; refine Hid.out ?_)
  refine Lib.hid ?_
  have z1 := hb1.size
  have B1 := Bx.mk' w1 (.int .i64 k) (.int .i64 n) (.string b) 23
  have hw1 : Below w.heap.size w (w1.alloc (.cells #[.int .i64 k, .int .i64 n, .string b] 23)) := hb1.alloc z1 _
  go_wp2_with (go_at_call 17; refine (H2.out _).mono ?_; rintro e w2 ⟨rfl, hb2⟩; refine Hid.out ?_)
  refine Lib.hid ?_
  have hw2 : Below w.heap.size w w2 := hw1.trans (hb2.mono hw1.size)
  have z2 := hw2.size
  have B2 := (B1.on hb2).on ((Below.refl _ w2).alloc (Nat.le_refl _) (.cells #[.int .i64 k, .int .i64 n, .string b] 23))
  have C2 := Bx.mk' w2 (.int .i64 k) (.int .i64 n) (.string b) 23
  have hw3 : Below w.heap.size w (w2.alloc (.cells #[.int .i64 k, .int .i64 n, .string b] 23)) := hw2.alloc z2 _
  go_wp2_with (go_at_call 9; refine (awake_any _ (hg.on hw3)).mono ?_; rintro e w3 ⟨rfl, hb3⟩; refine Hid.out ?_)
  refine Lib.hid ?_
  obtain ⟨a0, a1, a2, a3⟩ := B2.on hb3
  obtain ⟨c0, c1, c2, c3⟩ := C2.on hb3
  go_wp2
  go_ret
  exact ⟨rfl, hw3.trans (hb3.mono hw3.size)⟩

theorem reads_any (t : ByteArray) (w : World) (hg : Gd w) (hsz : t.size ≤ 140737488351232) :
    Calls Tryd.prog 6 #[.string t] w fun e w' => e = .returned (.bool true) ∧ Below w.heap.size w w' := by
  cases h : readL t.data.toList with
  | none => exact reads_at t 0 0 ⟨#[]⟩ 10 w hg (fun w hg => read_none t w hg h) (fun w => refRead_none t w hsz h)
  | some p =>
    obtain ⟨k, n, b⟩ := p
    exact reads_at t k n ⟨b.toArray⟩ 0 w hg (fun w hg => read_some t k n b w hg h) (fun w => refRead_some t w hsz k n b h)
end Go.Proofs.YtakpahmngkfpkaaDoor
