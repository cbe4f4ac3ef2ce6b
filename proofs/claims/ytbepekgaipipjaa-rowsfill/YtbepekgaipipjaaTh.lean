/- The law RowsAbsent. -/
import Derived.Test.YtbepekgaipipjaaTg
namespace Go.Proofs.Ytbepekgaipipjaa
open Go.RowKit Go.Maps
set_option maxHeartbeats 8000000 in
set_option maxRecDepth 100000 in
theorem absent_law {w : World} {La Lb : List Ch} {av bv : Value} (hA : Lr chE 4 w La av) (hB : Lr chE 4 w Lb bv) : Calls Try.prog 6 #[av, bv] w fun e w' => e = .returned (.bool true) ∧ Below w.heap.size w w' := by
  obtain ⟨ad, cap, rfl, hmxa⟩ := hA.len0
  obtain ⟨ad', cap', rfl, hmxb⟩ := hB.len0
  have HLA := Lib.hid hA
  have HLB := Lib.hid hB
  have haw := awake_any w
  clear hA hB
  by_cases g1 : 200 < La.length
  · have k1 : (200 : Int) < La.length := by omega
    go_enter Try.func6, Try.ntmps6
    go_wp2_with (go_at_call 10; refine haw.mono ?_; rintro e w1 ⟨rfl, b1⟩; refine Hid.out ?_)
    refine Lib.hid ?_
    have HB1 := Lib.hid b1
    have haw := awake_any w1
    clear b1
    go_wp2_with (go_at_call 10; refine haw.mono ?_; rintro e w2 ⟨rfl, b2⟩; refine Hid.out ?_)
    refine Lib.hid ?_
    have HB2 := Lib.hid (bgo HB1.out b2)
    clear haw b2
    go_wp2
    go_ret
    exact ⟨rfl, HB2.out⟩
  · have k1 : ¬ ((200 : Int) < La.length) := by omega
    by_cases g2 : 200 < Lb.length
    · have k2 : (200 : Int) < Lb.length := by omega
      go_enter Try.func6, Try.ntmps6
      go_wp2_with (go_at_call 10; refine haw.mono ?_; rintro e w1 ⟨rfl, b1⟩; refine Hid.out ?_)
      refine Lib.hid ?_
      have HB1 := Lib.hid b1
      have haw := awake_any w1
      clear b1
      go_wp2_with (go_at_call 10; refine haw.mono ?_; rintro e w2 ⟨rfl, b2⟩; refine Hid.out ?_)
      refine Lib.hid ?_
      have HB2 := Lib.hid (bgo HB1.out b2)
      clear haw b2
      go_wp2
      go_ret
      exact ⟨rfl, HB2.out⟩
    · have k2 : ¬ ((200 : Int) < Lb.length) := by omega
      have HG : Hid (La.length ≤ 200 ∧ Lb.length ≤ 200) := Lib.hid (by omega)
      go_enter Try.func6, Try.ntmps6
      go_wp2_with (go_at_call 10; refine haw.mono ?_; rintro e w1 ⟨rfl, b1⟩; refine Hid.out ?_)
      refine Lib.hid ?_
      have HB1 := Lib.hid b1
      have hpl := played_any (HLA.out.on chE_held b1) (HLB.out.on chE_held b1) HG.out.1 HG.out.2
      clear haw b1
      go_wp2_with (go_at_call 32; refine hpl.mono ?_; rintro e w2 ⟨A, M, N, rfl, hbd, b2⟩; refine Hid.out ?_)
      refine Lib.hid ?_
      have HB2 := Lib.hid (bgo HB1.out b2)
      obtain ⟨R, P, _, _, hw⟩ := hbd
      have hl := hw.es.len
      have c4 : w2.cell? ⟨A, 4, none⟩ = some (.map (some M)) := by
        obtain ⟨⟨s, j, _⟩, _⟩ := hw
        exact cell_blk j 4
      clear hpl b2 hw
      go_wp2
      go_ret
      exact ⟨rfl, HB2.out⟩
end Go.Proofs.Ytbepekgaipipjaa
