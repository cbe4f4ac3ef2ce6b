/- The walk of WireDeltas. -/
import Derived.Test.YtjhgmncmcklnkaaGa
import Derived.Test.YtjhgmncmcklnkaaNc
import Derived.Test.YtjhgmncmcklnkaaRf
namespace Go.Proofs.Ytjhgmncmcklnkaa
open Go.RowKit

set_option maxHeartbeats 8000000 in
set_option maxRecDepth 100000 in
theorem law_delta (w : World) {x : List At} {vs : List Value} (hx0 : hasS deltaT x) (hv0 : valsS w NoS x vs) (hl : (encS x).length ≤ 1000000000) : Calls Try.prog 4 #[.agg vs.toArray] w fun e w' => e = .returned (.bool true) ∧ Below w.heap.size w w' := by
  have HX := Lib.hid hx0
  have HV := Lib.hid hv0
  have HLN := Lib.hid hl
  obtain ⟨E, hE⟩ : ∃ E, txt (encS x) = E := ⟨_, rfl⟩
  have hEs : E.size ≤ 1000000000 := by rw [← hE, txt_size]; exact hl
  have hput : ∀ X, Below w.heap.size w X → Calls Try.prog 13 #[.agg vs.toArray] X fun e X' => e = .returned (.string E) ∧ Below X.heap.size X X' := fun X q => by
    rw [← hE]
    exact Put_delta X hx0 (valsS_keeps ⟨q.size, fun k hk hs => ⟨q.block k hk, hs⟩⟩ hv0) hl
  have href : ∀ X, Below w.heap.size w X → Calls Try.prog 15 #[.agg vs.toArray] X fun e X' => e = .returned (.string E) ∧ Below X.heap.size X X' := fun X q => by
    rw [← hE]
    exact delta_ref X hx0 (valsS_keeps ⟨q.size, fun k hk hs => ⟨q.block k hk, hs⟩⟩ hv0) hl
  have hget : ∀ X, Calls Try.prog 14 #[.string E] X fun e X' => ∃ us : Array Value, e = .returned (.tuple #[.agg us, .int .i64 0]) ∧ us.size = deltaT.length ∧ Below X.heap.size X X' ∧ Hid (valsS X' NoS x us.toList) := fun X => by
    refine (Get_delta X E hEs).mono ?_
    intro e X' q
    rw [← hE] at q
    obtain ⟨us, h1, h2, h3, h4⟩ := q.yes hx0
    exact ⟨us, h1, h2, h3, valsS_keeps ⟨Nat.le_refl _, fun k _ _ => ⟨rfl, fun q => q⟩⟩ (valsS_keeps (S := fun k => k < X.heap.size) (S' := NoS) ⟨Nat.le_refl _, fun k _ _ => ⟨rfl, fun q => q⟩⟩ h4)⟩
  have HEE := Lib.hid hE
  clear hE hEs hl
  obtain ⟨a0, x0, rfl, k0, hx_0⟩ := hasS_cons hx0
  obtain ⟨n0, rfl, i0⟩ := has_num k0
  obtain ⟨u0, r0, rfl, l0, hv_0⟩ := valsS_cons hv0
  obtain rfl := lies_num l0
  obtain ⟨a1, x1, rfl, k1, hx_1⟩ := hasS_cons hx_0
  obtain ⟨n1, rfl, i1⟩ := has_num k1
  obtain ⟨u1, r1, rfl, l1, hv_1⟩ := valsS_cons hv_0
  obtain rfl := lies_num l1
  obtain ⟨a2, x2, rfl, k2, hx_2⟩ := hasS_cons hx_1
  obtain ⟨n2, rfl⟩ := has_yes k2
  obtain ⟨u2, r2, rfl, l2, hv_2⟩ := valsS_cons hv_1
  obtain rfl := lies_yes l2
  obtain ⟨a3, x3, rfl, k3, hx_3⟩ := hasS_cons hx_2
  obtain ⟨n3, rfl, i3⟩ := has_num k3
  obtain ⟨u3, r3, rfl, l3, hv_3⟩ := valsS_cons hv_2
  obtain rfl := lies_num l3
  obtain ⟨a4, x4, rfl, k4, hx_4⟩ := hasS_cons hx_3
  obtain ⟨n4, rfl, i4⟩ := has_num k4
  obtain ⟨u4, r4, rfl, l4, hv_4⟩ := valsS_cons hv_3
  obtain rfl := lies_num l4
  obtain ⟨a5, x5, rfl, k5, hx_5⟩ := hasS_cons hx_4
  obtain ⟨n5, rfl, i5⟩ := has_text k5
  obtain ⟨u5, r5, rfl, l5, hv_5⟩ := valsS_cons hv_4
  obtain rfl := lies_text l5
  obtain ⟨a6, x6, rfl, k6, hx_6⟩ := hasS_cons hx_5
  obtain ⟨n6, rfl, i6⟩ := has_num k6
  obtain ⟨u6, r6, rfl, l6, hv_6⟩ := valsS_cons hv_5
  obtain rfl := lies_num l6
  obtain ⟨a7, x7, rfl, k7, hx_7⟩ := hasS_cons hx_6
  obtain ⟨n7, rfl, m7, i7⟩ := has_list k7
  obtain ⟨u7, r7, rfl, l7, hv_7⟩ := valsS_cons hv_6
  obtain ⟨ad7, cp7, rfl⟩ := lies_list l7
  obtain rfl := hasS_end hx_7
  obtain rfl := valsS_end hv_7
  clear k0 hx_0 hv_0 l0 i0 k1 hx_1 hv_1 l1 i1 k2 hx_2 hv_2 l2 k3 hx_3 hv_3 l3 i3 k4 hx_4 hv_4 l4 i4 k5 hx_5 hv_5 l5 i5 k6 hx_6 hv_6 l6 i6 k7 hx_7 hv_7 l7 i7 m7
  have hb0 : Below w.heap.size w (w.alloc (.cells #[.int .i64 n0, .int .i64 n1, .bool n2, .int .i64 n3, .int .i64 n4, .string n5, .int .i64 n6, .slice ad7 n7.length cp7] 32)) := (Below.refl _ _).alloc (Nat.le_refl _) _
  have hbk := heap_alloc_new w (.cells #[.int .i64 n0, .int .i64 n1, .bool n2, .int .i64 n3, .int .i64 n4, .string n5, .int .i64 n6, .slice ad7 n7.length cp7] 32)
  have HB0 := Lib.hid hb0
  have HBK := Lib.hid hbk
  clear hb0 hbk
  go_enter Try.func4, Try.ntmps4
  go_wp2_with (go_at_call 9; refine (awake_any _).mono ?_; rintro e w1 ⟨rfl, hb1⟩; refine Hid.out ?_)
  refine Lib.hid ?_
  have HB1 : Hid (Below w.heap.size w w1) := bel_trans HB0.out hb1
  have c0 : w1.cell? ⟨w.heap.size, 0, none⟩ = some (.int .i64 n0) := cell_on hb1 (cell_blk HBK.out 0)
  have c1 : w1.cell? ⟨w.heap.size, 1, none⟩ = some (.int .i64 n1) := cell_on hb1 (cell_blk HBK.out 1)
  have c2 : w1.cell? ⟨w.heap.size, 2, none⟩ = some (.bool n2) := cell_on hb1 (cell_blk HBK.out 2)
  have c3 : w1.cell? ⟨w.heap.size, 3, none⟩ = some (.int .i64 n3) := cell_on hb1 (cell_blk HBK.out 3)
  have c4 : w1.cell? ⟨w.heap.size, 4, none⟩ = some (.int .i64 n4) := cell_on hb1 (cell_blk HBK.out 4)
  have c5 : w1.cell? ⟨w.heap.size, 5, none⟩ = some (.string n5) := cell_on hb1 (cell_blk HBK.out 5)
  have c6 : w1.cell? ⟨w.heap.size, 6, none⟩ = some (.int .i64 n6) := cell_on hb1 (cell_blk HBK.out 6)
  have c7 : w1.cell? ⟨w.heap.size, 7, none⟩ = some (.slice ad7 n7.length cp7) := cell_on hb1 (cell_blk HBK.out 7)
  clear hb1
  by_cases h1 : (1000 : Int) < (n7.length : Int)
  · clear hput href hget
    go_wp2_with (go_at_call 9; refine (awake_any _).mono ?_; rintro e w2 ⟨rfl, hb2⟩; refine Hid.out ?_)
    refine Lib.hid ?_
    go_wp2
    go_ret
    exact ⟨rfl, bel_trans HB1.out hb2⟩
  · by_cases h2 : (65536 : Int) < (n5.size : Int)
    · clear hput href hget
      go_wp2_with (go_at_call 9; refine (awake_any _).mono ?_; rintro e w2 ⟨rfl, hb2⟩; refine Hid.out ?_)
      refine Lib.hid ?_
      go_wp2
      go_ret
      exact ⟨rfl, bel_trans HB1.out hb2⟩
    · have hp := hput w1 HB1.out
      clear hput
      go_wp2_with (go_at_call 13; refine hp.mono ?_; rintro e w2 ⟨rfl, hb2⟩; refine Hid.out ?_)
      refine Lib.hid ?_
      clear hp
      go_wp2_with (go_at_call 14; refine (hget _).mono ?_; rintro e w3 ⟨us, rfl, hus, hb3, hv3⟩; refine Hid.out ?_)
      refine Lib.hid ?_
      obtain ⟨a0, a1, a2, a3, a4, a5, a6, a7, rfl⟩ := arr8 hus
      have hv4 := hv3.out
      simp only [valsS, At.lies, and_true] at hv4
      obtain ⟨rfl, rfl, rfl, rfl, rfl, rfl, rfl, ⟨bd7, bc7, rfl, _⟩⟩ := hv4
      obtain ⟨W, hW⟩ : ∃ W, W = w3.alloc (.cells #[.int .i64 n0, .int .i64 n1, .bool n2, .int .i64 n3, .int .i64 n4, .string n5, .int .i64 n6, .slice bd7 n7.length bc7] 32) := ⟨_, rfl⟩
      have hb4 : Below w3.heap.size w3 W := by rw [hW]; exact (Below.refl _ _).alloc (Nat.le_refl _) _
      have hbn : W.heap[w3.heap.size]? = some (.cells #[.int .i64 n0, .int .i64 n1, .bool n2, .int .i64 n3, .int .i64 n4, .string n5, .int .i64 n6, .slice bd7 n7.length bc7] 32 (0, 0)) := by rw [hW]; exact heap_alloc_new w3 _
      have d0 : W.cell? ⟨w.heap.size, 0, none⟩ = some (.int .i64 n0) := cell_on hb4 (cell_on hb3 (cell_on hb2 c0))
      have d1 : W.cell? ⟨w.heap.size, 1, none⟩ = some (.int .i64 n1) := cell_on hb4 (cell_on hb3 (cell_on hb2 c1))
      have d2 : W.cell? ⟨w.heap.size, 2, none⟩ = some (.bool n2) := cell_on hb4 (cell_on hb3 (cell_on hb2 c2))
      have d3 : W.cell? ⟨w.heap.size, 3, none⟩ = some (.int .i64 n3) := cell_on hb4 (cell_on hb3 (cell_on hb2 c3))
      have d4 : W.cell? ⟨w.heap.size, 4, none⟩ = some (.int .i64 n4) := cell_on hb4 (cell_on hb3 (cell_on hb2 c4))
      have d5 : W.cell? ⟨w.heap.size, 5, none⟩ = some (.string n5) := cell_on hb4 (cell_on hb3 (cell_on hb2 c5))
      have d6 : W.cell? ⟨w.heap.size, 6, none⟩ = some (.int .i64 n6) := cell_on hb4 (cell_on hb3 (cell_on hb2 c6))
      have d7 : W.cell? ⟨w.heap.size, 7, none⟩ = some (.slice ad7 n7.length cp7) := cell_on hb4 (cell_on hb3 (cell_on hb2 c7))
      have HBW : Hid (Below w.heap.size w W) := bel_trans (bel_trans (bel_trans HB1.out hb2) hb3) hb4
      have hr1 := href W HBW.out
      have HV3 : Hid (valsS W NoS _ _) := valsS_keeps (S := NoS) (S' := NoS) ⟨hb4.size, fun k hk hs => ⟨hb4.block k hk, hs⟩⟩ hv3.out
      have hr2 : ∀ X, Below W.heap.size W X → Calls Try.prog 15 #[.agg #[.int .i64 n0, .int .i64 n1, .bool n2, .int .i64 n3, .int .i64 n4, .string n5, .int .i64 n6, .slice bd7 n7.length bc7]] X fun e X' => e = .returned (.string E) ∧ Below X.heap.size X X' := fun X q => by
        rw [← HEE.out]
        exact delta_ref X HX.out (valsS_keeps (S := NoS) ⟨q.size, fun k hk hs => ⟨q.block k hk, hs⟩⟩ HV3.out) HLN.out
      have HWW := Lib.hid hW
      have HBN := Lib.hid hbn
      clear hW hbn hb2 hb3 hb4 hv3 hus href hget
      go_upto_region 5 with fail
      rw [← HWW.out]
      go_wp2_with (go_at_call 15; refine hr1.mono ?_; rintro e w4 ⟨rfl, hb5⟩; refine Hid.out ?_)
      refine Lib.hid ?_
      have e0 : w4.cell? ⟨w3.heap.size, 0, none⟩ = some (.int .i64 n0) := cell_on hb5 (cell_blk HBN.out 0)
      have e1 : w4.cell? ⟨w3.heap.size, 1, none⟩ = some (.int .i64 n1) := cell_on hb5 (cell_blk HBN.out 1)
      have e2 : w4.cell? ⟨w3.heap.size, 2, none⟩ = some (.bool n2) := cell_on hb5 (cell_blk HBN.out 2)
      have e3 : w4.cell? ⟨w3.heap.size, 3, none⟩ = some (.int .i64 n3) := cell_on hb5 (cell_blk HBN.out 3)
      have e4 : w4.cell? ⟨w3.heap.size, 4, none⟩ = some (.int .i64 n4) := cell_on hb5 (cell_blk HBN.out 4)
      have e5 : w4.cell? ⟨w3.heap.size, 5, none⟩ = some (.string n5) := cell_on hb5 (cell_blk HBN.out 5)
      have e6 : w4.cell? ⟨w3.heap.size, 6, none⟩ = some (.int .i64 n6) := cell_on hb5 (cell_blk HBN.out 6)
      have e7 : w4.cell? ⟨w3.heap.size, 7, none⟩ = some (.slice bd7 n7.length bc7) := cell_on hb5 (cell_blk HBN.out 7)
      have hr3 := hr2 w4 hb5
      have HB5 := Lib.hid hb5
      clear hr1 hr2 hb5
      go_wp2_with (go_at_call 15; refine hr3.mono ?_; rintro e w5 ⟨rfl, hb6⟩; refine Hid.out ?_)
      refine Lib.hid ?_
      go_wp2
      go_ret
      exact ⟨rfl, bel_trans (bel_trans HBW.out HB5.out) hb6⟩
end Go.Proofs.Ytjhgmncmcklnkaa
