/- The walks of the drive's Read. -/
import Derived.Test.YtoipmpaebngppaaDWf
namespace Go.Proofs.Ytoipmpaebngppaa
open Go.RowKit Go.Maps

theorem field0 (ad : Option Addr) (ln cap : Nat) (s : Int) (w : World) : (Instr.field 75 (.agg #[.slice ad ln cap, .int .i64 s]) 0).run Try.prog w = .ok (.slice ad ln cap) w := by kernel_rfl
section
variable {w w' : World} {A N : Nat} {S : Nat → Prop} {F : List Fl} {left : Int} {down : Bool} {mv : Value} {loc : ByteArray → Value} {n : ByteArray}
set_option maxHeartbeats 1000000 in
set_option maxRecDepth 100000 in
theorem read_up (h : Dv w A S N F left false mv loc) (hn : n.size ≤ maxLen) : Calls Try.prog 21 #[.pointer (some ⟨A, 0, none⟩), .string n] w fun e w' => e = .returned (.tuple #[.string (oldF F n).data, .int .i64 0]) ∧ w' = w := by
  have hp := power_any h
  have hlk := h.look hn
  have hfd := field0
  have c0 := h.c0
  have ht := (h.oldRow n).text
  obtain ⟨ad, ln, cap, hv0⟩ : ∃ ad ln cap, rowOf F loc n = .slice ad ln cap := by
    obtain ⟨ad, cap, e⟩ := (h.oldRow n).shape
    exact ⟨ad, _, cap, e⟩
  rw [hv0] at hlk ht
  clear hv0
  go_enter Try.func21, Try.ntmps21
  go_wp2_with fail
  refine hp.mono ?_
  rintro e w' ⟨rfl, rfl⟩
  rw [show pw false = 0 from rfl]
  go_wp2
  go_ret2
  exact ⟨rfl, rfl⟩

end
end Go.Proofs.Ytoipmpaebngppaa
