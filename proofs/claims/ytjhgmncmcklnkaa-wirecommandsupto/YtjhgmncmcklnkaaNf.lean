/- PutCommand. -/
import Derived.Test.YtjhgmncmcklnkaaNd
import Derived.Test.YtjhgmncmcklnkaaKr
namespace Go.Proofs.Ytjhgmncmcklnkaa
open Go.RowKit

set_option maxHeartbeats 8000000 in
set_option maxRecDepth 100000 in
theorem Put_command (w : World) {x : List At} {vs : List Value} (hx0 : hasS commandT x) (hv0 : valsS w NoS x vs) (hl : (encS x).length ≤ 1000000000) : Calls Try.prog 16 #[.agg vs.toArray] w fun e w' => e = .returned (.string (txt (encS x))) ∧ Below w.heap.size w w' := by
  obtain ⟨W, hW⟩ : ∃ W, W = w.alloc (.cells vs.toArray 47) := ⟨_, rfl⟩
  have hb0 : Below w.heap.size w W := by rw [hW]; exact (Below.refl _ _).alloc (Nat.le_refl _) _
  have hcall := put_command W hx0 (valsS_keeps ⟨hb0.size, fun k hk hs => ⟨hb0.block k hk, hs⟩⟩ hv0) hl
  have hbk : W.heap[w.heap.size]? = some (.cells vs.toArray 47 (0, 0)) := by rw [hW]; exact heap_alloc_new w _
  have HB0 := Lib.hid hb0
  obtain ⟨E, hE⟩ : ∃ E, txt (encS x) = E := ⟨_, rfl⟩
  rw [hE] at hcall ⊢
  clear hE hl hb0
  obtain ⟨a0, x0, rfl, k0, hx_0⟩ := hasS_cons hx0
  obtain ⟨n0, rfl, i0⟩ := has_num k0
  obtain ⟨u0, r0, rfl, l0, hv_0⟩ := valsS_cons hv0
  obtain rfl := lies_num l0
  obtain ⟨a1, x1, rfl, k1, hx_1⟩ := hasS_cons hx_0
  obtain ⟨n1, rfl, i1⟩ := has_num k1
  obtain ⟨u1, r1, rfl, l1, hv_1⟩ := valsS_cons hv_0
  obtain rfl := lies_num l1
  obtain ⟨a2, x2, rfl, k2, hx_2⟩ := hasS_cons hx_1
  obtain ⟨n2, rfl, i2⟩ := has_num k2
  obtain ⟨u2, r2, rfl, l2, hv_2⟩ := valsS_cons hv_1
  obtain rfl := lies_num l2
  obtain ⟨a3, x3, rfl, k3, hx_3⟩ := hasS_cons hx_2
  obtain ⟨n3, rfl, i3⟩ := has_num k3
  obtain ⟨u3, r3, rfl, l3, hv_3⟩ := valsS_cons hv_2
  obtain rfl := lies_num l3
  obtain ⟨a4, x4, rfl, k4, hx_4⟩ := hasS_cons hx_3
  obtain ⟨n4, rfl, i4⟩ := has_num k4
  obtain ⟨u4, r4, rfl, l4, hv_4⟩ := valsS_cons hv_3
  obtain rfl := lies_num l4
  obtain ⟨a5, x5, rfl, k5, hx_5⟩ := hasS_cons hx_4
  obtain ⟨n5, rfl, i5⟩ := has_num k5
  obtain ⟨u5, r5, rfl, l5, hv_5⟩ := valsS_cons hv_4
  obtain rfl := lies_num l5
  obtain ⟨a6, x6, rfl, k6, hx_6⟩ := hasS_cons hx_5
  obtain ⟨n6, rfl, i6⟩ := has_num k6
  obtain ⟨u6, r6, rfl, l6, hv_6⟩ := valsS_cons hv_5
  obtain rfl := lies_num l6
  obtain ⟨a7, x7, rfl, k7, hx_7⟩ := hasS_cons hx_6
  obtain ⟨n7, rfl, i7⟩ := has_num k7
  obtain ⟨u7, r7, rfl, l7, hv_7⟩ := valsS_cons hv_6
  obtain rfl := lies_num l7
  obtain ⟨a8, x8, rfl, k8, hx_8⟩ := hasS_cons hx_7
  obtain ⟨n8, rfl, m8, i8⟩ := has_list k8
  obtain ⟨u8, r8, rfl, l8, hv_8⟩ := valsS_cons hv_7
  obtain ⟨ad8, cp8, rfl⟩ := lies_list l8
  obtain ⟨a9, x9, rfl, k9, hx_9⟩ := hasS_cons hx_8
  obtain ⟨n9, rfl, m9, i9⟩ := has_list k9
  obtain ⟨u9, r9, rfl, l9, hv_9⟩ := valsS_cons hv_8
  obtain ⟨ad9, cp9, rfl⟩ := lies_list l9
  obtain ⟨a10, x10, rfl, k10, hx_10⟩ := hasS_cons hx_9
  obtain ⟨n10, rfl, i10⟩ := has_num k10
  obtain ⟨u10, r10, rfl, l10, hv_10⟩ := valsS_cons hv_9
  obtain rfl := lies_num l10
  obtain ⟨a11, x11, rfl, k11, hx_11⟩ := hasS_cons hx_10
  obtain ⟨n11, rfl, i11⟩ := has_num k11
  obtain ⟨u11, r11, rfl, l11, hv_11⟩ := valsS_cons hv_10
  obtain rfl := lies_num l11
  obtain ⟨a12, x12, rfl, k12, hx_12⟩ := hasS_cons hx_11
  obtain ⟨n12, rfl, i12⟩ := has_num k12
  obtain ⟨u12, r12, rfl, l12, hv_12⟩ := valsS_cons hv_11
  obtain rfl := lies_num l12
  obtain ⟨a13, x13, rfl, k13, hx_13⟩ := hasS_cons hx_12
  obtain ⟨n13, rfl, i13⟩ := has_num k13
  obtain ⟨u13, r13, rfl, l13, hv_13⟩ := valsS_cons hv_12
  obtain rfl := lies_num l13
  obtain ⟨a14, x14, rfl, k14, hx_14⟩ := hasS_cons hx_13
  obtain ⟨n14, rfl, i14⟩ := has_num k14
  obtain ⟨u14, r14, rfl, l14, hv_14⟩ := valsS_cons hv_13
  obtain rfl := lies_num l14
  obtain ⟨a15, x15, rfl, k15, hx_15⟩ := hasS_cons hx_14
  obtain ⟨n15, rfl, i15⟩ := has_num k15
  obtain ⟨u15, r15, rfl, l15, hv_15⟩ := valsS_cons hv_14
  obtain rfl := lies_num l15
  obtain ⟨a16, x16, rfl, k16, hx_16⟩ := hasS_cons hx_15
  obtain ⟨n16, rfl, i16⟩ := has_text k16
  obtain ⟨u16, r16, rfl, l16, hv_16⟩ := valsS_cons hv_15
  obtain rfl := lies_text l16
  obtain ⟨a17, x17, rfl, k17, hx_17⟩ := hasS_cons hx_16
  obtain ⟨n17, rfl, i17⟩ := has_text k17
  obtain ⟨u17, r17, rfl, l17, hv_17⟩ := valsS_cons hv_16
  obtain rfl := lies_text l17
  obtain ⟨a18, x18, rfl, k18, hx_18⟩ := hasS_cons hx_17
  obtain ⟨n18, rfl, i18⟩ := has_text k18
  obtain ⟨u18, r18, rfl, l18, hv_18⟩ := valsS_cons hv_17
  obtain rfl := lies_text l18
  obtain ⟨a19, x19, rfl, k19, hx_19⟩ := hasS_cons hx_18
  obtain ⟨n19, rfl, i19⟩ := has_text k19
  obtain ⟨u19, r19, rfl, l19, hv_19⟩ := valsS_cons hv_18
  obtain rfl := lies_text l19
  obtain ⟨a20, x20, rfl, k20, hx_20⟩ := hasS_cons hx_19
  obtain ⟨n20, rfl⟩ := has_yes k20
  obtain ⟨u20, r20, rfl, l20, hv_20⟩ := valsS_cons hv_19
  obtain rfl := lies_yes l20
  obtain ⟨a21, x21, rfl, k21, hx_21⟩ := hasS_cons hx_20
  obtain ⟨n21, rfl, i21⟩ := has_num k21
  obtain ⟨u21, r21, rfl, l21, hv_21⟩ := valsS_cons hv_20
  obtain rfl := lies_num l21
  obtain ⟨a22, x22, rfl, k22, hx_22⟩ := hasS_cons hx_21
  obtain ⟨n22, rfl, i22⟩ := has_num k22
  obtain ⟨u22, r22, rfl, l22, hv_22⟩ := valsS_cons hv_21
  obtain rfl := lies_num l22
  obtain ⟨a23, x23, rfl, k23, hx_23⟩ := hasS_cons hx_22
  obtain ⟨n23, rfl, i23⟩ := has_num k23
  obtain ⟨u23, r23, rfl, l23, hv_23⟩ := valsS_cons hv_22
  obtain rfl := lies_num l23
  obtain ⟨a24, x24, rfl, k24, hx_24⟩ := hasS_cons hx_23
  obtain ⟨n24, rfl, i24⟩ := has_text k24
  obtain ⟨u24, r24, rfl, l24, hv_24⟩ := valsS_cons hv_23
  obtain rfl := lies_text l24
  obtain ⟨a25, x25, rfl, k25, hx_25⟩ := hasS_cons hx_24
  obtain ⟨n25, rfl, m25, i25⟩ := has_list k25
  obtain ⟨u25, r25, rfl, l25, hv_25⟩ := valsS_cons hv_24
  obtain ⟨ad25, cp25, rfl⟩ := lies_list l25
  obtain ⟨a26, x26, rfl, k26, hx_26⟩ := hasS_cons hx_25
  obtain ⟨n26, rfl, i26⟩ := has_num k26
  obtain ⟨u26, r26, rfl, l26, hv_26⟩ := valsS_cons hv_25
  obtain rfl := lies_num l26
  obtain ⟨a27, x27, rfl, k27, hx_27⟩ := hasS_cons hx_26
  obtain ⟨n27, rfl, i27⟩ := has_num k27
  obtain ⟨u27, r27, rfl, l27, hv_27⟩ := valsS_cons hv_26
  obtain rfl := lies_num l27
  obtain ⟨a28, x28, rfl, k28, hx_28⟩ := hasS_cons hx_27
  obtain ⟨n28, rfl, i28⟩ := has_text k28
  obtain ⟨u28, r28, rfl, l28, hv_28⟩ := valsS_cons hv_27
  obtain rfl := lies_text l28
  obtain ⟨a29, x29, rfl, k29, hx_29⟩ := hasS_cons hx_28
  obtain ⟨n29, rfl, i29⟩ := has_num k29
  obtain ⟨u29, r29, rfl, l29, hv_29⟩ := valsS_cons hv_28
  obtain rfl := lies_num l29
  obtain rfl := hasS_end hx_29
  obtain rfl := valsS_end hv_29
  clear k0 hx_0 hv_0 l0 i0 k1 hx_1 hv_1 l1 i1 k2 hx_2 hv_2 l2 i2 k3 hx_3 hv_3 l3 i3 k4 hx_4 hv_4 l4 i4 k5 hx_5 hv_5 l5 i5 k6 hx_6 hv_6 l6 i6 k7 hx_7 hv_7 l7 i7 k8 hx_8 hv_8 l8 i8 m8 k9 hx_9 hv_9 l9 i9 m9 k10 hx_10 hv_10 l10 i10 k11 hx_11 hv_11 l11 i11 k12 hx_12 hv_12 l12 i12 k13 hx_13 hv_13 l13 i13 k14 hx_14 hv_14 l14 i14 k15 hx_15 hv_15 l15 i15 k16 hx_16 hv_16 l16 i16 k17 hx_17 hv_17 l17 i17 k18 hx_18 hv_18 l18 i18 k19 hx_19 hv_19 l19 i19 k20 hx_20 hv_20 l20 k21 hx_21 hv_21 l21 i21 k22 hx_22 hv_22 l22 i22 k23 hx_23 hv_23 l23 i23 k24 hx_24 hv_24 l24 i24 k25 hx_25 hv_25 l25 i25 m25 k26 hx_26 hv_26 l26 i26 k27 hx_27 hv_27 l27 i27 k28 hx_28 hv_28 l28 i28 k29 hx_29 hv_29 l29 i29
  have hld := load_row hbk Try.underlying47 rfl size47
  have HW := Lib.hid hW
  clear hbk hW hx0 hv0
  go_enter Try.func16, Try.ntmps16
  go_upto_region 1 with fail
  rw [← HW.out]
  go_wp2_with (first | (refine wpl_load _ rfl (by simp [Act.eval]) hld ?_) | (go_at_call 35; refine hcall.mono ?_; rintro e w1 ⟨rfl, q⟩; refine Hid.out ?_))
  refine Lib.hid ?_
  have HBB : Hid (Below w.heap.size w w1) := bel_trans HB0.out q
  clear q hcall HB0 hld
  go_wp2
  go_ret
  exact ⟨rfl, HBB.out⟩
end Go.Proofs.Ytjhgmncmcklnkaa
