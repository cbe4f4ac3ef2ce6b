/- The law RowsAbsent. -/
import Derived.Test.YtbepekgaipipjaaTf
namespace Go.Proofs.Ytbepekgaipipjaa
open Go.RowKit Go.Maps
set_option maxHeartbeats 8000000 in
set_option maxRecDepth 100000 in
theorem played_any {w : World} {La Lb : List Ch} {av bv : Value} (hA : Lr chE 4 w La av) (hB : Lr chE 4 w Lb bv) (hla : La.length ≤ 200) (hlb : Lb.length ≤ 200) :
    Calls Try.prog 32 #[av, bv, .int .i64 0, .int .i64 1] w fun e w' => ∃ A M N, e = .returned (.pointer (some ⟨A, 0, none⟩)) ∧ Bd w' A M N ∧ Below w.heap.size w w' := by
  obtain ⟨ad, cap, rfl, hr0⟩ := hA
  have hA : Lr chE 4 w La (.slice ad La.length cap) := ⟨ad, cap, rfl, hr0⟩
  obtain ⟨ad', cap', rfl, hr1⟩ := hB
  have hB : Lr chE 4 w Lb (.slice ad' Lb.length cap') := ⟨ad', cap', rfl, hr1⟩
  obtain ⟨V0, hV0⟩ : ∃ W, W = w.alloc (.map #[] 0) := ⟨_, rfl⟩
  obtain ⟨M, hM⟩ : ∃ Y, w.heap.size = Y := ⟨_, rfl⟩
  obtain ⟨V1, hV1⟩ : ∃ W, W = V0.alloc (.cells #[.slice none 0 0, .slice none 0 0, .slice none 0 0, .slice none 0 0, .map (some M)] 65) := ⟨_, rfl⟩
  obtain ⟨A, hA0⟩ : ∃ Y, M + 1 = Y := ⟨_, rfl⟩
  have hA1 : V0.heap.size = A := by rw [hV0, World.size_alloc, hM, hA0]
  have hes : Es V0 M 0 0 (fun _ => False) := by rw [hV0, ← hM]; exact Es.made w
  have b0 : Below w.heap.size w V0 := by rw [hV0]; exact bnew _ _
  have b1 : Below V0.heap.size V0 V1 := by rw [hV1]; exact bnew _ _
  have j1 : V1.heap[A]? = some (.cells #[.slice none 0 0, .slice none 0 0, .slice none 0 0, .slice none 0 0, .map (some M)] 65 (0, 0)) := by rw [hV1, ← hA1]; exact heap_alloc_new V0 _
  have hwd : Wd V1 A M 0 0 (fun _ => []) (fun _ => False) := ⟨⟨fun _ => .slice none 0 0, j1, fun _ => World.ownsRow_nil _ _ _ _⟩, hes.stays (b1.block M hes.lt)⟩
  have HAW : Hid (w.heap.size ≤ A ∧ w.heap.size ≤ M) := Lib.hid (by have := b0.size; omega)
  have HBD : Hid (Bd V1 A M 0) := Lib.hid ⟨_, _, fun _ => .inl rfl, fun _ h => h, hwd⟩
  have HB1 := Lib.hid (bgo b0 b1)
  have HLA := Lib.hid hA
  have HLB := Lib.hid hB
  have HV0 := Lib.hid hV0
  have HV1 := Lib.hid hV1
  have HM := Lib.hid hM
  have HA := Lib.hid hA0
  have HL := Lib.hid (And.intro hla hlb)
  have hmxa : (La.length : Int) ≤ 9223372036854775807 := by omega
  have hmxb : (Lb.length : Int) ≤ 9223372036854775807 := by omega
  have hmm := @run_makeMap Try.prog
  clear hV0 hM hV1 hA0 hA1 hes b0 b1 j1 hwd hA hB hr0 hr1 hla hlb
  go_enter Try.func32, Try.ntmps32
  go_upto_region 2 with fail
  rw [← HV0.out, HM.out, ← HV1.out, HA.out]
  clear hmm
  go_wp2
  go_loopw [19] (fun iv wr => ∃ i : Nat, i ≤ La.length ∧ iv = .int .i64 (i : Int) ∧ Bd wr A M (0 + 3 * i) ∧ Below w.heap.size w wr) (fun iv _ => La.length - (intOf iv).toNat)
  case atStart => exact ⟨0, Nat.zero_le _, rfl, HBD.out, HB1.out⟩
  case round =>
    obtain ⟨i, hi, rfl, hbd, hb⟩ := hrel
    by_cases hlt : i < La.length
    · obtain ⟨_, _, _, hcells⟩ := (HLA.out.on chE_held hb).atC
      obtain ⟨b, o, rfl, hbl, c0, c1, c2, c3⟩ := hcells i hlt
      obtain ⟨x, hx⟩ : ∃ x, La[i] = x := ⟨_, rfl⟩
      rw [hx] at c0 c1 c2 c3
      obtain ⟨V2, hV2⟩ : ∃ V2, V2 = wr.alloc (.cells #[.int .i64 x.key, .int .i64 x.v, .bool x.gone, .bool x.nw] 73) := ⟨_, rfl⟩
      obtain ⟨Q, hQ⟩ : ∃ Q, wr.heap.size = Q := ⟨_, rfl⟩
      have bV2 : Below wr.heap.size wr V2 := by rw [hV2]; exact bnew _ _
      have jQ : V2.heap[Q]? = some (.cells #[.int .i64 x.key, .int .i64 x.v, .bool x.gone, .bool x.nw] 73 (0, 0)) := by rw [hV2, ← hQ]; exact heap_alloc_new wr _
      have HBD2 : Hid (Bd V2 A M (0 + 3 * i)) := Lib.hid (by obtain ⟨R, P, h1, h2, h3⟩ := hbd; exact ⟨R, P, h1, h2, h3.stays bV2⟩)
      have HB2 := Lib.hid (bgo hb bV2)
      have HLT := Lib.hid hlt
      have HV2 := Lib.hid hV2
      have HQ := Lib.hid hQ
      have k1 : (i : Int) < La.length := by omega
      have k0 : (0 : Int) ≤ i := by omega
      have HNL : Hid (0 + 3 * i ≤ 1000000) := Lib.hid (by have := HL.out; omega)
      have HJQ := Lib.hid jQ
      clear hbd hb hcells hbl hx hV2 hQ bV2 jQ hlt hi
      go_upto_region 5 with fail
      rw [← HV2.out, HQ.out]
      clear c0 c1 c2 c3
      have q0 : V2.cell? ⟨Q, 0, none⟩ = some (.int .i64 x.key) := cell_blk HJQ.out 0
      have q1 : V2.cell? ⟨Q, 1, none⟩ = some (.int .i64 x.v) := cell_blk HJQ.out 1
      have q2 : V2.cell? ⟨Q, 2, none⟩ = some (.bool x.gone) := cell_blk HJQ.out 2
      have q3 : V2.cell? ⟨Q, 3, none⟩ = some (.bool x.nw) := cell_blk HJQ.out 3
      have hdo := absent_do HBD2.out HNL.out x.key x.v x.gone x.nw (st := 0) (by decide)
      go_wp2_with (go_at_call 35; refine hdo.mono ?_; rintro e y1 ⟨rfl, hbd1, hf1⟩; refine Hid.out ?_)
      refine Lib.hid ?_
      have HBD3 := Lib.hid hbd1
      have HB3 : Hid (Below w.heap.size w y1) := Lib.hid (HB2.out.trans (hf1.toBelow (fun q hq e => by have := HAW.out; omega) HB2.out.size))
      clear hdo hbd1 hf1 q0 q1 q2 q3
      go_wp2
      go_roundw
      case rel => exact ⟨i + 1, HLT.out, by go_num, HBD3.out, HB3.out⟩
      case measure => simp [intOf]; omega
    · have hil : i = La.length := by omega
      have k1 : ¬ ((i : Int) < La.length) := by omega
      rw [hil] at hbd
      have HBE : Hid (Bd wr A M (3 * La.length + 3 * 0)) := Lib.hid (by rw [Nat.zero_add] at hbd; exact hbd)
      have HBL := Lib.hid hb
      clear hbd hb k1 hil hi
      go_wp2
      go_loopw [30] (fun iv wr => ∃ i : Nat, i ≤ Lb.length ∧ iv = .int .i64 (i : Int) ∧ Bd wr A M (3 * La.length + 3 * i) ∧ Below w.heap.size w wr) (fun iv _ => Lb.length - (intOf iv).toNat)
      case atStart => exact ⟨0, Nat.zero_le _, rfl, HBE.out, HBL.out⟩
      case round =>
        obtain ⟨i, hi, rfl, hbd, hb⟩ := hrel
        by_cases hlt : i < Lb.length
        · obtain ⟨_, _, _, hcells⟩ := (HLB.out.on chE_held hb).atC
          obtain ⟨b, o, rfl, hbl, c0, c1, c2, c3⟩ := hcells i hlt
          obtain ⟨x, hx⟩ : ∃ x, Lb[i] = x := ⟨_, rfl⟩
          rw [hx] at c0 c1 c2 c3
          obtain ⟨V2, hV2⟩ : ∃ V2, V2 = wr.alloc (.cells #[.int .i64 x.key, .int .i64 x.v, .bool x.gone, .bool x.nw] 73) := ⟨_, rfl⟩
          obtain ⟨Q, hQ⟩ : ∃ Q, wr.heap.size = Q := ⟨_, rfl⟩
          have bV2 : Below wr.heap.size wr V2 := by rw [hV2]; exact bnew _ _
          have jQ : V2.heap[Q]? = some (.cells #[.int .i64 x.key, .int .i64 x.v, .bool x.gone, .bool x.nw] 73 (0, 0)) := by rw [hV2, ← hQ]; exact heap_alloc_new wr _
          have HBD2 : Hid (Bd V2 A M (3 * La.length + 3 * i)) := Lib.hid (by obtain ⟨R, P, h1, h2, h3⟩ := hbd; exact ⟨R, P, h1, h2, h3.stays bV2⟩)
          have HB2 := Lib.hid (bgo hb bV2)
          have HLT := Lib.hid hlt
          have HV2 := Lib.hid hV2
          have HQ := Lib.hid hQ
          have k1 : (i : Int) < Lb.length := by omega
          have k0 : (0 : Int) ≤ i := by omega
          have HNL : Hid (3 * La.length + 3 * i ≤ 1000000) := Lib.hid (by have := HL.out; omega)
          have HJQ := Lib.hid jQ
          clear hbd hb hcells hbl hx hV2 hQ bV2 jQ hlt hi
          go_upto_region 10 with fail
          rw [← HV2.out, HQ.out]
          clear c0 c1 c2 c3
          have q0 : V2.cell? ⟨Q, 0, none⟩ = some (.int .i64 x.key) := cell_blk HJQ.out 0
          have q1 : V2.cell? ⟨Q, 1, none⟩ = some (.int .i64 x.v) := cell_blk HJQ.out 1
          have q2 : V2.cell? ⟨Q, 2, none⟩ = some (.bool x.gone) := cell_blk HJQ.out 2
          have q3 : V2.cell? ⟨Q, 3, none⟩ = some (.bool x.nw) := cell_blk HJQ.out 3
          cases hnw : x.nw with
          | true =>
            rw [hnw] at q3
            clear hnw
            have hdo := absent_do HBD2.out HNL.out x.key x.v x.gone true (st := 1) (by decide)
            go_wp2_with (go_at_call 35; refine hdo.mono ?_; rintro e y1 ⟨rfl, hbd1, hf1⟩; refine Hid.out ?_)
            refine Lib.hid ?_
            have HBD3 := Lib.hid hbd1
            have HB3 : Hid (Below w.heap.size w y1) := Lib.hid (HB2.out.trans (hf1.toBelow (fun q hq e => by have := HAW.out; omega) HB2.out.size))
            clear hdo hbd1 hf1 q0 q1 q2 q3
            go_wp2
            go_roundw
            case rel => exact ⟨i + 1, HLT.out, by go_num, HBD3.out, HB3.out⟩
            case measure => simp [intOf]; omega
          | false =>
            rw [hnw] at q3
            clear hnw
            have hdo := absent_do HBD2.out HNL.out x.key x.v x.gone false (st := 0) (by decide)
            go_wp2_with (go_at_call 35; refine hdo.mono ?_; rintro e y1 ⟨rfl, hbd1, hf1⟩; refine Hid.out ?_)
            refine Lib.hid ?_
            have HBD3 := Lib.hid hbd1
            have HB3 : Hid (Below w.heap.size w y1) := Lib.hid (HB2.out.trans (hf1.toBelow (fun q hq e => by have := HAW.out; omega) HB2.out.size))
            clear hdo hbd1 hf1 q0 q1 q2 q3
            go_wp2
            go_roundw
            case rel => exact ⟨i + 1, HLT.out, by go_num, HBD3.out, HB3.out⟩
            case measure => simp [intOf]; omega
        · have hil : i = Lb.length := by omega
          have k1 : ¬ ((i : Int) < Lb.length) := by omega
          have HBF := Lib.hid hbd
          have HBM := Lib.hid hb
          clear hbd hb hil k1
          go_wp2
          go_ret
          exact ⟨_, _, _, rfl, HBF.out, HBM.out⟩
end Go.Proofs.Ytbepekgaipipjaa
