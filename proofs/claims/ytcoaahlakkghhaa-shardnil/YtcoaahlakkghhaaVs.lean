/- The walk of SameHits. -/
import Derived.Test.YtcoaahlakkghhaaVr
import Derived.BigQuiet
import Derived.Deep.QuietTactic
namespace Go.Proofs.Ytcoaahlakkghhaa
open Go.RowKit
section
variable {w w' : World} {X Y : List Hi} {u v : Value}
set_option maxHeartbeats 4000000 in
set_option maxRecDepth 100000 in
theorem same_hits (hX : Hm w X u) (hY : Hm w X v) : Calls Try.prog 25 #[u, v] w fun e w' => e = .returned (.bool true) ∧ Below w.heap.size w w' := by
  obtain ⟨ad, cap, rfl, z1, z2, hX⟩ := hX
  obtain ⟨ad', cap', rfl, z3, z4, hY⟩ := hY
  have hmx : (X.length : Int) ≤ 9223372036854775807 := by unfold maxLen at z2; omega
  have HX := Lib.hid hX
  have HY := Lib.hid hY
  clear hX hY z2 z4 z1 z3
  go_enter Try.func25, Try.ntmps25
  go_wp2
  go_loopw [5] (fun iv wr => ∃ i : Nat, i ≤ X.length ∧ iv = .int .i64 (i : Int) ∧ Below w.heap.size w wr) (fun iv _ => X.length - (intOf iv).toNat)
  case atStart => exact ⟨0, Nat.zero_le _, rfl, Below.refl _ _⟩
  case round =>
    obtain ⟨i, hi, rfl, hb⟩ := hrel
    obtain ⟨V, rfl⟩ : ∃ V, V = wr := ⟨_, rfl⟩
    by_cases hlt : i < X.length
    · obtain ⟨b, rfl, c0, c1, c2⟩ := HX.out i hlt
      obtain ⟨b', rfl, d0, d1, d2⟩ := HY.out i hlt
      have c0 := cell_on hb c0
      have c1 := cell_on hb c1
      have c2 := cell_on hb c2
      have d0 := cell_on hb d0
      have d1 := cell_on hb d1
      have d2 := cell_on hb d2
      have k1 : (i : Int) < X.length := by omega
      have k0 : (0 : Int) ≤ i := by omega
      have HB := Lib.hid hb
      have e1 := same_eq X[i].key X[i].key
      have e2 := same_eq X[i].val X[i].val
      simp only [decide_true] at e1 e2
      clear hb
      go_wp2
      go_quiet (fail)
      go_wp2
      go_roundw
      case rel => exact ⟨i + 1, hlt, by go_num, below_draw HB.out nq⟩
      case measure => simp [intOf]; omega
    · have k1 : ¬ ((i : Int) < X.length) := by omega
      go_wp2
      go_ret
      exact ⟨rfl, hb⟩
end
end Go.Proofs.Ytcoaahlakkghhaa
