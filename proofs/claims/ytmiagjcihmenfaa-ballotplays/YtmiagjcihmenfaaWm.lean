/- The document's comparison of changes, of what is the same. -/
import Derived.Test.YtmiagjcihmenfaaWl
import Derived.Test.YtmiagjcihmenfaaXk
namespace Go.Proofs.Ytmiagjcihmenfaa
open Go.RowKit

section
variable {w w' W V : World} {A : Nat} {S T : Nat → Prop} {b c : Bs}
set_option maxHeartbeats 4000000 in
set_option maxRecDepth 100000 in
theorem change_same (d : De) {ad ad2 : Option Addr} {cap cap2 : Nat} (ha : Es w S d.list (.slice ad d.list.length cap)) (hb : Es w T d.list (.slice ad2 d.list.length cap2)) : Calls Try.prog 19 #[deV d (.slice ad d.list.length cap), deV d (.slice ad2 d.list.length cap2)] w fun e w' => e = .returned (.bool true) ∧ Below w.heap.size w w' := by
  obtain ⟨W, hW⟩ : ∃ W, W = (w.alloc (.cells #[.int .i64 d.term, .int .i64 d.vote, .bool d.whole, .int .i64 d.base, .int .i64 d.baseTerm, .string d.snap, .int .i64 d.fr, .slice ad d.list.length cap] 44)).alloc (.cells #[.int .i64 d.term, .int .i64 d.vote, .bool d.whole, .int .i64 d.base, .int .i64 d.baseTerm, .string d.snap, .int .i64 d.fr, .slice ad2 d.list.length cap2] 44) := ⟨_, rfl⟩
  have hb1 : Below w.heap.size w (w.alloc (.cells #[.int .i64 d.term, .int .i64 d.vote, .bool d.whole, .int .i64 d.base, .int .i64 d.baseTerm, .string d.snap, .int .i64 d.fr, .slice ad d.list.length cap] 44)) := (Below.refl _ w).alloc (Nat.le_refl _) _
  have hb2 : Below w.heap.size w W := by rw [hW]; exact hb1.alloc hb1.size _
  have he : Calls Try.prog 40 #[.slice ad d.list.length cap, .slice ad2 d.list.length cap2] W fun e w' => e = .returned (.bool true) ∧ Below w.heap.size w w' := by
    refine (ents_same (ha.on hb2) (hb.on hb2)).mono ?_
    rintro e w' ⟨rfl, n, rfl⟩
    exact ⟨rfl, hb2.trans ((below_draw (Below.refl W.heap.size W) n).mono hb2.size)⟩
  rw [hW] at he
  clear hW hb1 hb2 ha hb
  go_enter Try.func19, Try.ntmps19
  go_wp2_with fail
  refine he.mono ?_
  rintro e w1 ⟨rfl, q⟩
  have HQ := Lib.hid q
  clear he q
  go_wp2
  go_ret
  exact ⟨rfl, HQ.out⟩
end
end Go.Proofs.Ytmiagjcihmenfaa
