/- The document's Command. -/
import Derived.Test.YtjhgmncmcklnkaaVRg
import Derived.Test.YtjhgmncmcklnkaaVRh
import Derived.Test.YtjhgmncmcklnkaaVRn
import Derived.Test.YtjhgmncmcklnkaaVRo
import Derived.Test.YtjhgmncmcklnkaaVMh
import Derived.Test.YtjhgmncmcklnkaaVZo
namespace Go.Proofs.Ytjhgmncmcklnkaa
open Go.RowKit

section
variable {ρ : Operand → Value} {X : World} {d : Option Tmp} {ty : TypeId} {ps : String} {af : Array Edge} {g : Option (Nat × Bool)} {x : Operand} {B : Nat}
theorem op_c0 (e : ρ x = .pointer (some ⟨B, 0, none⟩)) : (execOp ρ ⟨d, .fieldAddr 47 x 0, ty, ps, af, g⟩).run Try.prog X = .ok (.value (.pointer (some ⟨B, 0, none⟩))) X := by
  simp only [execOp, e]
  go_simp
theorem op_c1 (e : ρ x = .pointer (some ⟨B, 0, none⟩)) : (execOp ρ ⟨d, .fieldAddr 47 x 1, ty, ps, af, g⟩).run Try.prog X = .ok (.value (.pointer (some ⟨B, 1, none⟩))) X := by
  simp only [execOp, e]
  go_simp
theorem op_c2 (e : ρ x = .pointer (some ⟨B, 0, none⟩)) : (execOp ρ ⟨d, .fieldAddr 47 x 2, ty, ps, af, g⟩).run Try.prog X = .ok (.value (.pointer (some ⟨B, 4, none⟩))) X := by
  simp only [execOp, e]
  go_simp
theorem op_c3 (e : ρ x = .pointer (some ⟨B, 0, none⟩)) : (execOp ρ ⟨d, .fieldAddr 47 x 3, ty, ps, af, g⟩).run Try.prog X = .ok (.value (.pointer (some ⟨B, 7, none⟩))) X := by
  simp only [execOp, e]
  go_simp
theorem op_c4 (e : ρ x = .pointer (some ⟨B, 0, none⟩)) : (execOp ρ ⟨d, .fieldAddr 47 x 4, ty, ps, af, g⟩).run Try.prog X = .ok (.value (.pointer (some ⟨B, 8, none⟩))) X := by
  simp only [execOp, e]
  go_simp
theorem op_c5 (e : ρ x = .pointer (some ⟨B, 0, none⟩)) : (execOp ρ ⟨d, .fieldAddr 47 x 5, ty, ps, af, g⟩).run Try.prog X = .ok (.value (.pointer (some ⟨B, 9, none⟩))) X := by
  simp only [execOp, e]
  go_simp
theorem op_c6 (e : ρ x = .pointer (some ⟨B, 0, none⟩)) : (execOp ρ ⟨d, .fieldAddr 47 x 6, ty, ps, af, g⟩).run Try.prog X = .ok (.value (.pointer (some ⟨B, 10, none⟩))) X := by
  simp only [execOp, e]
  go_simp
theorem op_c7 (e : ρ x = .pointer (some ⟨B, 0, none⟩)) : (execOp ρ ⟨d, .fieldAddr 47 x 7, ty, ps, af, g⟩).run Try.prog X = .ok (.value (.pointer (some ⟨B, 11, none⟩))) X := by
  simp only [execOp, e]
  go_simp
theorem op_c8 (e : ρ x = .pointer (some ⟨B, 0, none⟩)) : (execOp ρ ⟨d, .fieldAddr 47 x 8, ty, ps, af, g⟩).run Try.prog X = .ok (.value (.pointer (some ⟨B, 12, none⟩))) X := by
  simp only [execOp, e]
  go_simp
theorem op_c9 (e : ρ x = .pointer (some ⟨B, 0, none⟩)) : (execOp ρ ⟨d, .fieldAddr 47 x 9, ty, ps, af, g⟩).run Try.prog X = .ok (.value (.pointer (some ⟨B, 13, none⟩))) X := by
  simp only [execOp, e]
  go_simp
theorem op_c10 (e : ρ x = .pointer (some ⟨B, 0, none⟩)) : (execOp ρ ⟨d, .fieldAddr 47 x 10, ty, ps, af, g⟩).run Try.prog X = .ok (.value (.pointer (some ⟨B, 14, none⟩))) X := by
  simp only [execOp, e]
  go_simp
theorem op_c11 (e : ρ x = .pointer (some ⟨B, 0, none⟩)) : (execOp ρ ⟨d, .fieldAddr 47 x 11, ty, ps, af, g⟩).run Try.prog X = .ok (.value (.pointer (some ⟨B, 15, none⟩))) X := by
  simp only [execOp, e]
  go_simp
theorem op_c12 (e : ρ x = .pointer (some ⟨B, 0, none⟩)) : (execOp ρ ⟨d, .fieldAddr 47 x 12, ty, ps, af, g⟩).run Try.prog X = .ok (.value (.pointer (some ⟨B, 26, none⟩))) X := by
  simp only [execOp, e]
  go_simp
theorem op_c13 (e : ρ x = .pointer (some ⟨B, 0, none⟩)) : (execOp ρ ⟨d, .fieldAddr 47 x 13, ty, ps, af, g⟩).run Try.prog X = .ok (.value (.pointer (some ⟨B, 27, none⟩))) X := by
  simp only [execOp, e]
  go_simp
theorem op_c14 (e : ρ x = .pointer (some ⟨B, 0, none⟩)) : (execOp ρ ⟨d, .fieldAddr 47 x 14, ty, ps, af, g⟩).run Try.prog X = .ok (.value (.pointer (some ⟨B, 28, none⟩))) X := by
  simp only [execOp, e]
  go_simp
theorem op_c15 (e : ρ x = .pointer (some ⟨B, 0, none⟩)) : (execOp ρ ⟨d, .fieldAddr 47 x 15, ty, ps, af, g⟩).run Try.prog X = .ok (.value (.pointer (some ⟨B, 29, none⟩))) X := by
  simp only [execOp, e]
  go_simp
set_option maxHeartbeats 2000000 in
theorem op_load45 {m0 m6 m7 m8 : Int} {m1 m2 m3 m4 m9 : ByteArray} {m5 : Bool} {ma : Option Addr} {mn mc : Nat} (e : ρ x = .pointer (some ⟨B, 15, none⟩)) (y0 : X.cell? ⟨B, 15, none⟩ = some (.int .i64 m0)) (y1 : X.cell? ⟨B, 16, none⟩ = some (.string m1)) (y2 : X.cell? ⟨B, 17, none⟩ = some (.string m2)) (y3 : X.cell? ⟨B, 18, none⟩ = some (.string m3)) (y4 : X.cell? ⟨B, 19, none⟩ = some (.string m4)) (y5 : X.cell? ⟨B, 20, none⟩ = some (.bool m5)) (y6 : X.cell? ⟨B, 21, none⟩ = some (.int .i64 m6)) (y7 : X.cell? ⟨B, 22, none⟩ = some (.int .i64 m7)) (y8 : X.cell? ⟨B, 23, none⟩ = some (.int .i64 m8)) (y9 : X.cell? ⟨B, 24, none⟩ = some (.string m9)) (y10 : X.cell? ⟨B, 25, none⟩ = some (.slice ma mn mc)) : (execOp ρ ⟨d, .load 45 x, ty, ps, af, g⟩).run Try.prog X = .ok (.value (.agg #[.int .i64 m0, .string m1, .string m2, .string m3, .string m4, .bool m5, .int .i64 m6, .int .i64 m7, .int .i64 m8, .string m9, .slice ma mn mc])) X := by
  simp only [execOp, e]
  go_simp
end
set_option maxHeartbeats 8000000 in
set_option maxRecDepth 100000 in
theorem command_ref (w : World) {x : List At} {vs : List Value} (hx0 : hasS commandT x) (hv0 : valsS w NoS x vs) (hl : (encS x).length ≤ 1000000000) : Calls Try.prog 18 #[.agg vs.toArray] w fun e w' => e = .returned (.string (txt (encS x))) ∧ Below w.heap.size w w' := by
  obtain ⟨a0, x0, rfl, k0, hx_0⟩ := hasS_cons hx0
  obtain ⟨n0, rfl, i0⟩ := has_num k0
  obtain ⟨u0, r0, rfl, l0, hv_0⟩ := valsS_cons hv0
  obtain rfl := lies_num l0
  obtain ⟨a1, x1, rfl, k1, hx_1⟩ := hasS_cons hx_0
  obtain ⟨n1, rfl, i1⟩ := has_num k1
  obtain ⟨u1, r1, rfl, l1, hv_1⟩ := valsS_cons hv_0
  obtain rfl := lies_num l1
  obtain ⟨a2, x2, rfl, k2, hx_2⟩ := hasS_cons hx_1
  obtain ⟨n2, rfl, i2⟩ := has_num k2
  obtain ⟨u2, r2, rfl, l2, hv_2⟩ := valsS_cons hv_1
  obtain rfl := lies_num l2
  obtain ⟨a3, x3, rfl, k3, hx_3⟩ := hasS_cons hx_2
  obtain ⟨n3, rfl, i3⟩ := has_num k3
  obtain ⟨u3, r3, rfl, l3, hv_3⟩ := valsS_cons hv_2
  obtain rfl := lies_num l3
  obtain ⟨a4, x4, rfl, k4, hx_4⟩ := hasS_cons hx_3
  obtain ⟨n4, rfl, i4⟩ := has_num k4
  obtain ⟨u4, r4, rfl, l4, hv_4⟩ := valsS_cons hv_3
  obtain rfl := lies_num l4
  obtain ⟨a5, x5, rfl, k5, hx_5⟩ := hasS_cons hx_4
  obtain ⟨n5, rfl, i5⟩ := has_num k5
  obtain ⟨u5, r5, rfl, l5, hv_5⟩ := valsS_cons hv_4
  obtain rfl := lies_num l5
  obtain ⟨a6, x6, rfl, k6, hx_6⟩ := hasS_cons hx_5
  obtain ⟨n6, rfl, i6⟩ := has_num k6
  obtain ⟨u6, r6, rfl, l6, hv_6⟩ := valsS_cons hv_5
  obtain rfl := lies_num l6
  obtain ⟨a7, x7, rfl, k7, hx_7⟩ := hasS_cons hx_6
  obtain ⟨n7, rfl, i7⟩ := has_num k7
  obtain ⟨u7, r7, rfl, l7, hv_7⟩ := valsS_cons hv_6
  obtain rfl := lies_num l7
  obtain ⟨a8, x8, rfl, k8, hx_8⟩ := hasS_cons hx_7
  obtain ⟨n8, rfl, m8, i8⟩ := has_list k8
  obtain ⟨u8, r8, rfl, l8, hv_8⟩ := valsS_cons hv_7
  obtain ⟨ad8, cp8, rfl⟩ := lies_list l8
  obtain ⟨a9, x9, rfl, k9, hx_9⟩ := hasS_cons hx_8
  obtain ⟨n9, rfl, m9, i9⟩ := has_list k9
  obtain ⟨u9, r9, rfl, l9, hv_9⟩ := valsS_cons hv_8
  obtain ⟨ad9, cp9, rfl⟩ := lies_list l9
  obtain ⟨a10, x10, rfl, k10, hx_10⟩ := hasS_cons hx_9
  obtain ⟨n10, rfl, i10⟩ := has_num k10
  obtain ⟨u10, r10, rfl, l10, hv_10⟩ := valsS_cons hv_9
  obtain rfl := lies_num l10
  obtain ⟨a11, x11, rfl, k11, hx_11⟩ := hasS_cons hx_10
  obtain ⟨n11, rfl, i11⟩ := has_num k11
  obtain ⟨u11, r11, rfl, l11, hv_11⟩ := valsS_cons hv_10
  obtain rfl := lies_num l11
  obtain ⟨a12, x12, rfl, k12, hx_12⟩ := hasS_cons hx_11
  obtain ⟨n12, rfl, i12⟩ := has_num k12
  obtain ⟨u12, r12, rfl, l12, hv_12⟩ := valsS_cons hv_11
  obtain rfl := lies_num l12
  obtain ⟨a13, x13, rfl, k13, hx_13⟩ := hasS_cons hx_12
  obtain ⟨n13, rfl, i13⟩ := has_num k13
  obtain ⟨u13, r13, rfl, l13, hv_13⟩ := valsS_cons hv_12
  obtain rfl := lies_num l13
  obtain ⟨a14, x14, rfl, k14, hx_14⟩ := hasS_cons hx_13
  obtain ⟨n14, rfl, i14⟩ := has_num k14
  obtain ⟨u14, r14, rfl, l14, hv_14⟩ := valsS_cons hv_13
  obtain rfl := lies_num l14
  obtain ⟨a15, x15, rfl, k15, hx_15⟩ := hasS_cons hx_14
  obtain ⟨n15, rfl, i15⟩ := has_num k15
  obtain ⟨u15, r15, rfl, l15, hv_15⟩ := valsS_cons hv_14
  obtain rfl := lies_num l15
  obtain ⟨a16, x16, rfl, k16, hx_16⟩ := hasS_cons hx_15
  obtain ⟨n16, rfl, i16⟩ := has_text k16
  obtain ⟨u16, r16, rfl, l16, hv_16⟩ := valsS_cons hv_15
  obtain rfl := lies_text l16
  obtain ⟨a17, x17, rfl, k17, hx_17⟩ := hasS_cons hx_16
  obtain ⟨n17, rfl, i17⟩ := has_text k17
  obtain ⟨u17, r17, rfl, l17, hv_17⟩ := valsS_cons hv_16
  obtain rfl := lies_text l17
  obtain ⟨a18, x18, rfl, k18, hx_18⟩ := hasS_cons hx_17
  obtain ⟨n18, rfl, i18⟩ := has_text k18
  obtain ⟨u18, r18, rfl, l18, hv_18⟩ := valsS_cons hv_17
  obtain rfl := lies_text l18
  obtain ⟨a19, x19, rfl, k19, hx_19⟩ := hasS_cons hx_18
  obtain ⟨n19, rfl, i19⟩ := has_text k19
  obtain ⟨u19, r19, rfl, l19, hv_19⟩ := valsS_cons hv_18
  obtain rfl := lies_text l19
  obtain ⟨a20, x20, rfl, k20, hx_20⟩ := hasS_cons hx_19
  obtain ⟨n20, rfl⟩ := has_yes k20
  obtain ⟨u20, r20, rfl, l20, hv_20⟩ := valsS_cons hv_19
  obtain rfl := lies_yes l20
  obtain ⟨a21, x21, rfl, k21, hx_21⟩ := hasS_cons hx_20
  obtain ⟨n21, rfl, i21⟩ := has_num k21
  obtain ⟨u21, r21, rfl, l21, hv_21⟩ := valsS_cons hv_20
  obtain rfl := lies_num l21
  obtain ⟨a22, x22, rfl, k22, hx_22⟩ := hasS_cons hx_21
  obtain ⟨n22, rfl, i22⟩ := has_num k22
  obtain ⟨u22, r22, rfl, l22, hv_22⟩ := valsS_cons hv_21
  obtain rfl := lies_num l22
  obtain ⟨a23, x23, rfl, k23, hx_23⟩ := hasS_cons hx_22
  obtain ⟨n23, rfl, i23⟩ := has_num k23
  obtain ⟨u23, r23, rfl, l23, hv_23⟩ := valsS_cons hv_22
  obtain rfl := lies_num l23
  obtain ⟨a24, x24, rfl, k24, hx_24⟩ := hasS_cons hx_23
  obtain ⟨n24, rfl, i24⟩ := has_text k24
  obtain ⟨u24, r24, rfl, l24, hv_24⟩ := valsS_cons hv_23
  obtain rfl := lies_text l24
  obtain ⟨a25, x25, rfl, k25, hx_25⟩ := hasS_cons hx_24
  obtain ⟨n25, rfl, m25, i25⟩ := has_list k25
  obtain ⟨u25, r25, rfl, l25, hv_25⟩ := valsS_cons hv_24
  obtain ⟨ad25, cp25, rfl⟩ := lies_list l25
  obtain ⟨a26, x26, rfl, k26, hx_26⟩ := hasS_cons hx_25
  obtain ⟨n26, rfl, i26⟩ := has_num k26
  obtain ⟨u26, r26, rfl, l26, hv_26⟩ := valsS_cons hv_25
  obtain rfl := lies_num l26
  obtain ⟨a27, x27, rfl, k27, hx_27⟩ := hasS_cons hx_26
  obtain ⟨n27, rfl, i27⟩ := has_num k27
  obtain ⟨u27, r27, rfl, l27, hv_27⟩ := valsS_cons hv_26
  obtain rfl := lies_num l27
  obtain ⟨a28, x28, rfl, k28, hx_28⟩ := hasS_cons hx_27
  obtain ⟨n28, rfl, i28⟩ := has_text k28
  obtain ⟨u28, r28, rfl, l28, hv_28⟩ := valsS_cons hv_27
  obtain rfl := lies_text l28
  obtain ⟨a29, x29, rfl, k29, hx_29⟩ := hasS_cons hx_28
  obtain ⟨n29, rfl, i29⟩ := has_num k29
  obtain ⟨u29, r29, rfl, l29, hv_29⟩ := valsS_cons hv_28
  obtain rfl := lies_num l29
  obtain rfl := hasS_end hx_29
  obtain rfl := valsS_end hv_29
  have es : encS [.num n0, .num n1, .num n2, .num n3, .num n4, .num n5, .num n6, .num n7, .list n8, .list n9, .num n10, .num n11, .num n12, .num n13, .num n14, .num n15, .text n16, .text n17, .text n18, .text n19, .yes n20, .num n21, .num n22, .num n23, .text n24, .list n25, .num n26, .num n27, .text n28, .num n29] = num n0 ++ encS [.num n1, .num n2, .num n3] ++ encS [.num n4, .num n5, .num n6] ++ num n7 ++ (At.list n8).enc ++ (At.list n9).enc ++ numsL [n10, n11, n12, n13, n14] ++ encS [.num n15, .text n16, .text n17, .text n18, .text n19, .yes n20, .num n21, .num n22, .num n23, .text n24, .list n25] ++ numsL [n26, n27] ++ (At.text n28).enc ++ num n29 := by
    simp [numsL, encS, At.enc]
  rw [es] at hl ⊢
  simp only [List.length_append] at hl
  have HES := Lib.hid es
  obtain ⟨W, hW⟩ : ∃ W, W = w.alloc (.cells #[.int .i64 n0, .int .i64 n1, .int .i64 n2, .int .i64 n3, .int .i64 n4, .int .i64 n5, .int .i64 n6, .int .i64 n7, .slice ad8 n8.length cp8, .slice ad9 n9.length cp9, .int .i64 n10, .int .i64 n11, .int .i64 n12, .int .i64 n13, .int .i64 n14, .int .i64 n15, .string n16, .string n17, .string n18, .string n19, .bool n20, .int .i64 n21, .int .i64 n22, .int .i64 n23, .string n24, .slice ad25 n25.length cp25, .int .i64 n26, .int .i64 n27, .string n28, .int .i64 n29] 47) := ⟨_, rfl⟩
  have hbW : Below w.heap.size w W := by rw [hW]; exact (Below.refl _ _).alloc (Nat.le_refl _) _
  have hbk : W.heap[w.heap.size]? = some (.cells #[.int .i64 n0, .int .i64 n1, .int .i64 n2, .int .i64 n3, .int .i64 n4, .int .i64 n5, .int .i64 n6, .int .i64 n7, .slice ad8 n8.length cp8, .slice ad9 n9.length cp9, .int .i64 n10, .int .i64 n11, .int .i64 n12, .int .i64 n13, .int .i64 n14, .int .i64 n15, .string n16, .string n17, .string n18, .string n19, .bool n20, .int .i64 n21, .int .i64 n22, .int .i64 n23, .string n24, .slice ad25 n25.length cp25, .int .i64 n26, .int .i64 n27, .string n28, .int .i64 n29] 47 (0, 0)) := by rw [hW]; exact heap_alloc_new w _
  have c0 : W.cell? ⟨w.heap.size, 0, none⟩ = some (.int .i64 n0) := cell_blk hbk 0
  have c1 : W.cell? ⟨w.heap.size, 1, none⟩ = some (.int .i64 n1) := cell_blk hbk 1
  have c2 : W.cell? ⟨w.heap.size, 2, none⟩ = some (.int .i64 n2) := cell_blk hbk 2
  have c3 : W.cell? ⟨w.heap.size, 3, none⟩ = some (.int .i64 n3) := cell_blk hbk 3
  have c4 : W.cell? ⟨w.heap.size, 4, none⟩ = some (.int .i64 n4) := cell_blk hbk 4
  have c5 : W.cell? ⟨w.heap.size, 5, none⟩ = some (.int .i64 n5) := cell_blk hbk 5
  have c6 : W.cell? ⟨w.heap.size, 6, none⟩ = some (.int .i64 n6) := cell_blk hbk 6
  have c7 : W.cell? ⟨w.heap.size, 7, none⟩ = some (.int .i64 n7) := cell_blk hbk 7
  have c8 : W.cell? ⟨w.heap.size, 8, none⟩ = some (.slice ad8 n8.length cp8) := cell_blk hbk 8
  have c9 : W.cell? ⟨w.heap.size, 9, none⟩ = some (.slice ad9 n9.length cp9) := cell_blk hbk 9
  have c10 : W.cell? ⟨w.heap.size, 10, none⟩ = some (.int .i64 n10) := cell_blk hbk 10
  have c11 : W.cell? ⟨w.heap.size, 11, none⟩ = some (.int .i64 n11) := cell_blk hbk 11
  have c12 : W.cell? ⟨w.heap.size, 12, none⟩ = some (.int .i64 n12) := cell_blk hbk 12
  have c13 : W.cell? ⟨w.heap.size, 13, none⟩ = some (.int .i64 n13) := cell_blk hbk 13
  have c14 : W.cell? ⟨w.heap.size, 14, none⟩ = some (.int .i64 n14) := cell_blk hbk 14
  have c15 : W.cell? ⟨w.heap.size, 15, none⟩ = some (.int .i64 n15) := cell_blk hbk 15
  have c16 : W.cell? ⟨w.heap.size, 16, none⟩ = some (.string n16) := cell_blk hbk 16
  have c17 : W.cell? ⟨w.heap.size, 17, none⟩ = some (.string n17) := cell_blk hbk 17
  have c18 : W.cell? ⟨w.heap.size, 18, none⟩ = some (.string n18) := cell_blk hbk 18
  have c19 : W.cell? ⟨w.heap.size, 19, none⟩ = some (.string n19) := cell_blk hbk 19
  have c20 : W.cell? ⟨w.heap.size, 20, none⟩ = some (.bool n20) := cell_blk hbk 20
  have c21 : W.cell? ⟨w.heap.size, 21, none⟩ = some (.int .i64 n21) := cell_blk hbk 21
  have c22 : W.cell? ⟨w.heap.size, 22, none⟩ = some (.int .i64 n22) := cell_blk hbk 22
  have c23 : W.cell? ⟨w.heap.size, 23, none⟩ = some (.int .i64 n23) := cell_blk hbk 23
  have c24 : W.cell? ⟨w.heap.size, 24, none⟩ = some (.string n24) := cell_blk hbk 24
  have c25 : W.cell? ⟨w.heap.size, 25, none⟩ = some (.slice ad25 n25.length cp25) := cell_blk hbk 25
  have c26 : W.cell? ⟨w.heap.size, 26, none⟩ = some (.int .i64 n26) := cell_blk hbk 26
  have c27 : W.cell? ⟨w.heap.size, 27, none⟩ = some (.int .i64 n27) := cell_blk hbk 27
  have c28 : W.cell? ⟨w.heap.size, 28, none⟩ = some (.string n28) := cell_blk hbk 28
  have c29 : W.cell? ⟨w.heap.size, 29, none⟩ = some (.int .i64 n29) := cell_blk hbk 29
  have HI0 := Lib.hid i0
  have HI1 := Lib.hid i1
  have HI2 := Lib.hid i2
  have HI3 := Lib.hid i3
  have hc1 : ∀ X qq, qq = #[.int .i64 n1, .int .i64 n2, .int .i64 n3] → Below W.heap.size W X → Calls Try.prog 39 #[.agg qq] X fun e X' => e = .returned (.string (txt (encS [.num n1, .num n2, .num n3]))) ∧ Below X.heap.size X X' := fun X qq zq hX => by rw [zq]; exact tid_ref X (x := [.num n1, .num n2, .num n3]) (vs := [.int .i64 n1, .int .i64 n2, .int .i64 n3]) (by simp only [hasS]; exact ⟨k1, k2, k3, trivial⟩) (by simp only [valsS]; exact ⟨(lies_on (lies_on l1 hbW) hX), (lies_on (lies_on l2 hbW) hX), (lies_on (lies_on l3 hbW) hX), trivial⟩) (by omega)
  have HI4 := Lib.hid i4
  have HI5 := Lib.hid i5
  have HI6 := Lib.hid i6
  have hc4 : ∀ X qq, qq = #[.int .i64 n4, .int .i64 n5, .int .i64 n6] → Below W.heap.size W X → Calls Try.prog 39 #[.agg qq] X fun e X' => e = .returned (.string (txt (encS [.num n4, .num n5, .num n6]))) ∧ Below X.heap.size X X' := fun X qq zq hX => by rw [zq]; exact tid_ref X (x := [.num n4, .num n5, .num n6]) (vs := [.int .i64 n4, .int .i64 n5, .int .i64 n6]) (by simp only [hasS]; exact ⟨k4, k5, k6, trivial⟩) (by simp only [valsS]; exact ⟨(lies_on (lies_on l4 hbW) hX), (lies_on (lies_on l5 hbW) hX), (lies_on (lies_on l6 hbW) hX), trivial⟩) (by omega)
  have HI7 := Lib.hid i7
  have HV8 := Lib.hid (lies_on l8 hbW)
  have HT8 := Lib.hid i8
  have HE8 : Hid ((At.list n8).enc.length ≤ 1000000000) := by show _ ≤ _; omega
  have HV9 := Lib.hid (lies_on l9 hbW)
  have HT9 := Lib.hid i9
  have HE9 : Hid ((At.list n9).enc.length ≤ 1000000000) := by show _ ≤ _; omega
  have MK1 : Hid (Mk #[.int .i64 n10, .int .i64 n11, .int .i64 n12, .int .i64 n13, .int .i64 n14] 5 [n10, n11, n12, n13, n14]) := by
    refine ⟨fun i h => ?_, rfl, by omega, ?_⟩
    · have : i = 0 ∨ i = 1 ∨ i = 2 ∨ i = 3 ∨ i = 4 := by simp at h; omega
      rcases this with rfl | rfl | rfl | rfl | rfl <;> rfl
    · intro n hn
      simp at hn
      rcases hn with rfl | rfl | rfl | rfl | rfl
      · exact i10
      · exact i11
      · exact i12
      · exact i13
      · exact i14
  have HI15 := Lib.hid i15
  have HI21 := Lib.hid i21
  have HI22 := Lib.hid i22
  have HI23 := Lib.hid i23
  have hc15 : ∀ X qq, qq = #[.int .i64 n15, .string n16, .string n17, .string n18, .string n19, .bool n20, .int .i64 n21, .int .i64 n22, .int .i64 n23, .string n24, .slice ad25 n25.length cp25] → Below W.heap.size W X → Calls Try.prog 42 #[.agg qq] X fun e X' => e = .returned (.string (txt (encS [.num n15, .text n16, .text n17, .text n18, .text n19, .yes n20, .num n21, .num n22, .num n23, .text n24, .list n25]))) ∧ Below X.heap.size X X' := fun X qq zq hX => by rw [zq]; exact ddl_ref X (x := [.num n15, .text n16, .text n17, .text n18, .text n19, .yes n20, .num n21, .num n22, .num n23, .text n24, .list n25]) (vs := [.int .i64 n15, .string n16, .string n17, .string n18, .string n19, .bool n20, .int .i64 n21, .int .i64 n22, .int .i64 n23, .string n24, .slice ad25 n25.length cp25]) (by simp only [hasS]; exact ⟨k15, k16, k17, k18, k19, k20, k21, k22, k23, k24, k25, trivial⟩) (by simp only [valsS]; exact ⟨(lies_on (lies_on l15 hbW) hX), (lies_on (lies_on l16 hbW) hX), (lies_on (lies_on l17 hbW) hX), (lies_on (lies_on l18 hbW) hX), (lies_on (lies_on l19 hbW) hX), (lies_on (lies_on l20 hbW) hX), (lies_on (lies_on l21 hbW) hX), (lies_on (lies_on l22 hbW) hX), (lies_on (lies_on l23 hbW) hX), (lies_on (lies_on l24 hbW) hX), (lies_on (lies_on l25 hbW) hX), trivial⟩) (by omega)
  have MK2 : Hid (Mk #[.int .i64 n26, .int .i64 n27] 2 [n26, n27]) := by
    refine ⟨fun i h => ?_, rfl, by omega, ?_⟩
    · have : i = 0 ∨ i = 1 := by simp at h; omega
      rcases this with rfl | rfl <;> rfl
    · intro n hn
      simp at hn
      rcases hn with rfl | rfl
      · exact i26
      · exact i27
  have s28 : n28.size ≤ 1000000000 := text_size (by omega)
  have HI29 := Lib.hid i29
  have HW := Lib.hid hW
  have HBW := Lib.hid hbW
  have HES2 := Lib.hid es
  clear hx0 hv0
  go_enter Try.func18, Try.ntmps18
  go_upto_region 1 with fail
  rw [← HW.out]
  refine wp_region_kept (fun X => Below W.heap.size W X) (fun X X' => Below X.heap.size X X') [
      fun v _ => v = .pointer (some ⟨w.heap.size, 0, none⟩),
      fun v _ => v = .int .i64 n0,
      fun v _ => v = .string (txt (num n0)),
      fun v _ => v = .pointer (some ⟨w.heap.size, 1, none⟩),
      fun v _ => v = .agg #[.int .i64 n1, .int .i64 n2, .int .i64 n3],
      fun v _ => v = .string (txt (encS [.num n1, .num n2, .num n3])),
      fun v _ => v = .string (txt (num n0 ++ encS [.num n1, .num n2, .num n3])),
      fun v _ => v = .pointer (some ⟨w.heap.size, 4, none⟩),
      fun v _ => v = .agg #[.int .i64 n4, .int .i64 n5, .int .i64 n6],
      fun v _ => v = .string (txt (encS [.num n4, .num n5, .num n6])),
      fun v _ => v = .string (txt (num n0 ++ encS [.num n1, .num n2, .num n3] ++ encS [.num n4, .num n5, .num n6])),
      fun v _ => v = .pointer (some ⟨w.heap.size, 7, none⟩),
      fun v _ => v = .int .i64 n7,
      fun v _ => v = .string (txt (num n7)),
      fun v _ => v = .string (txt (num n0 ++ encS [.num n1, .num n2, .num n3] ++ encS [.num n4, .num n5, .num n6] ++ num n7)),
      fun v _ => v = .pointer (some ⟨w.heap.size, 8, none⟩),
      fun v _ => v = .slice ad8 n8.length cp8,
      fun v _ => v = .string (txt ((At.list n8).enc)),
      fun v _ => v = .string (txt (num n0 ++ encS [.num n1, .num n2, .num n3] ++ encS [.num n4, .num n5, .num n6] ++ num n7 ++ (At.list n8).enc)),
      fun v _ => v = .pointer (some ⟨w.heap.size, 9, none⟩),
      fun v _ => v = .slice ad9 n9.length cp9,
      fun v _ => v = .string (txt ((At.list n9).enc)),
      fun v _ => v = .string (txt (num n0 ++ encS [.num n1, .num n2, .num n3] ++ encS [.num n4, .num n5, .num n6] ++ num n7 ++ (At.list n8).enc ++ (At.list n9).enc)),
      fun v _ => v = .pointer (some ⟨w.heap.size, 10, none⟩),
      fun v _ => v = .int .i64 n10,
      fun v _ => v = .pointer (some ⟨w.heap.size, 11, none⟩),
      fun v _ => v = .int .i64 n11,
      fun v _ => v = .pointer (some ⟨w.heap.size, 12, none⟩),
      fun v _ => v = .int .i64 n12,
      fun v _ => v = .pointer (some ⟨w.heap.size, 13, none⟩),
      fun v _ => v = .int .i64 n13,
      fun v _ => v = .pointer (some ⟨w.heap.size, 14, none⟩),
      fun v _ => v = .int .i64 n14,
      fun v X => ∃ F, v = .slice (some ⟨F, 0, none⟩) 5 5 ∧ IntsK X F 5 [n10, n11, n12, n13, n14],
      fun v _ => v = .string (txt (numsL [n10, n11, n12, n13, n14])),
      fun v _ => v = .string (txt (num n0 ++ encS [.num n1, .num n2, .num n3] ++ encS [.num n4, .num n5, .num n6] ++ num n7 ++ (At.list n8).enc ++ (At.list n9).enc ++ numsL [n10, n11, n12, n13, n14])),
      fun v _ => v = .pointer (some ⟨w.heap.size, 15, none⟩),
      fun v _ => v = .agg #[.int .i64 n15, .string n16, .string n17, .string n18, .string n19, .bool n20, .int .i64 n21, .int .i64 n22, .int .i64 n23, .string n24, .slice ad25 n25.length cp25],
      fun v _ => v = .string (txt (encS [.num n15, .text n16, .text n17, .text n18, .text n19, .yes n20, .num n21, .num n22, .num n23, .text n24, .list n25])),
      fun v _ => v = .string (txt (num n0 ++ encS [.num n1, .num n2, .num n3] ++ encS [.num n4, .num n5, .num n6] ++ num n7 ++ (At.list n8).enc ++ (At.list n9).enc ++ numsL [n10, n11, n12, n13, n14] ++ encS [.num n15, .text n16, .text n17, .text n18, .text n19, .yes n20, .num n21, .num n22, .num n23, .text n24, .list n25])),
      fun v _ => v = .pointer (some ⟨w.heap.size, 26, none⟩),
      fun v _ => v = .int .i64 n26,
      fun v _ => v = .pointer (some ⟨w.heap.size, 27, none⟩),
      fun v _ => v = .int .i64 n27,
      fun v X => ∃ F, v = .slice (some ⟨F, 0, none⟩) 2 2 ∧ IntsK X F 2 [n26, n27],
      fun v _ => v = .string (txt (numsL [n26, n27])),
      fun v _ => v = .string (txt (num n0 ++ encS [.num n1, .num n2, .num n3] ++ encS [.num n4, .num n5, .num n6] ++ num n7 ++ (At.list n8).enc ++ (At.list n9).enc ++ numsL [n10, n11, n12, n13, n14] ++ encS [.num n15, .text n16, .text n17, .text n18, .text n19, .yes n20, .num n21, .num n22, .num n23, .text n24, .list n25] ++ numsL [n26, n27])),
      fun v _ => v = .pointer (some ⟨w.heap.size, 28, none⟩),
      fun v _ => v = .string n28,
      fun v _ => v = .string (txt ((At.text n28).enc)),
      fun v _ => v = .string (txt (num n0 ++ encS [.num n1, .num n2, .num n3] ++ encS [.num n4, .num n5, .num n6] ++ num n7 ++ (At.list n8).enc ++ (At.list n9).enc ++ numsL [n10, n11, n12, n13, n14] ++ encS [.num n15, .text n16, .text n17, .text n18, .text n19, .yes n20, .num n21, .num n22, .num n23, .text n24, .list n25] ++ numsL [n26, n27] ++ (At.text n28).enc)),
      fun v _ => v = .pointer (some ⟨w.heap.size, 29, none⟩),
      fun v _ => v = .int .i64 n29,
      fun v _ => v = .string (txt (num n29)),
      fun v _ => v = .string (txt (num n0 ++ encS [.num n1, .num n2, .num n3] ++ encS [.num n4, .num n5, .num n6] ++ num n7 ++ (At.list n8).enc ++ (At.list n9).enc ++ numsL [n10, n11, n12, n13, n14] ++ encS [.num n15, .text n16, .text n17, .text n18, .text n19, .yes n20, .num n21, .num n22, .num n23, .text n24, .list n25] ++ numsL [n26, n27] ++ (At.text n28).enc ++ num n29)),
      fun v _ => v = .string (txt (num n0 ++ encS [.num n1, .num n2, .num n3] ++ encS [.num n4, .num n5, .num n6] ++ num n7 ++ (At.list n8).enc ++ (At.list n9).enc ++ numsL [n10, n11, n12, n13, n14] ++ encS [.num n15, .text n16, .text n17, .text n18, .text n19, .yes n20, .num n21, .num n22, .num n23, .text n24, .list n25] ++ numsL [n26, n27] ++ (At.text n28).enc ++ num n29))]
    (by kernel_rfl) (by kernel_rfl) (by kernel_rfl) ?st ?g0 ?os ?en
  case st => exact ⟨fun _ _ _ _ h => h, fun _ _ _ _ h => h, fun _ _ _ _ h => h, fun _ _ _ _ h => h, fun _ _ _ _ h => h, fun _ _ _ _ h => h, fun _ _ _ _ h => h, fun _ _ _ _ h => h, fun _ _ _ _ h => h, fun _ _ _ _ h => h, fun _ _ _ _ h => h, fun _ _ _ _ h => h, fun _ _ _ _ h => h, fun _ _ _ _ h => h, fun _ _ _ _ h => h, fun _ _ _ _ h => h, fun _ _ _ _ h => h, fun _ _ _ _ h => h, fun _ _ _ _ h => h, fun _ _ _ _ h => h, fun _ _ _ _ h => h, fun _ _ _ _ h => h, fun _ _ _ _ h => h, fun _ _ _ _ h => h, fun _ _ _ _ h => h, fun _ _ _ _ h => h, fun _ _ _ _ h => h, fun _ _ _ _ h => h, fun _ _ _ _ h => h, fun _ _ _ _ h => h, fun _ _ _ _ h => h, fun _ _ _ _ h => h, fun _ _ _ _ h => h, fun _ _ _ hs ⟨F, e, q⟩ => ⟨F, e, q.on hs⟩, fun _ _ _ _ h => h, fun _ _ _ _ h => h, fun _ _ _ _ h => h, fun _ _ _ _ h => h, fun _ _ _ _ h => h, fun _ _ _ _ h => h, fun _ _ _ _ h => h, fun _ _ _ _ h => h, fun _ _ _ _ h => h, fun _ _ _ _ h => h, fun _ _ _ hs ⟨F, e, q⟩ => ⟨F, e, q.on hs⟩, fun _ _ _ _ h => h, fun _ _ _ _ h => h, fun _ _ _ _ h => h, fun _ _ _ _ h => h, fun _ _ _ _ h => h, fun _ _ _ _ h => h, fun _ _ _ _ h => h, fun _ _ _ _ h => h, fun _ _ _ _ h => h, fun _ _ _ _ h => h, fun _ _ _ _ h => h, trivial⟩
  case g0 => exact bel_drew1 (Below.refl _ _)
  case os =>
    refine ⟨?_, ?_, ?_, ?_, ?_, ?_, ?_, ?_, ?_, ?_, ?_, ?_, ?_, ?_, ?_, ?_, ?_, ?_, ?_, ?_, ?_, ?_, ?_, ?_, ?_, ?_, ?_, ?_, ?_, ?_, ?_, ?_, ?_, ?_, ?_, ?_, ?_, ?_, ?_, ?_, ?_, ?_, ?_, ?_, ?_, ?_, ?_, ?_, ?_, ?_, ?_, ?_, ?_, ?_, ?_, ?_, trivial⟩
    · exact ⟨rfl, fun ρ X hg ho hc hf hr => Runs.val _ (op_c0 (show ρ (.tmp 1) = .pointer (some ⟨w.heap.size, 0, none⟩) from ho 1 rfl)) ⟨hg, Below.refl _ _, rfl⟩⟩
    · exact ⟨rfl, fun ρ X hg ho hc hf hr => Runs.val _ (op_load3 (show ρ (.tmp 3) = .pointer (some ⟨w.heap.size, 0, none⟩) from hr 0 3 rfl rfl) (cell_on hg c0)) ⟨hg, Below.refl _ _, rfl⟩⟩
    · exact ⟨rfl, fun ρ X hg ho hc hf hr => Runs.says hg (op_call1 hf call38 (show ρ (.tmp 4) = .int .i64 n0 from hr 1 4 rfl rfl)) (num_ref _ _ HI0.out) (fun w' h1 h2 => ⟨h1, h2, rfl⟩)⟩
    · exact ⟨rfl, fun ρ X hg ho hc hf hr => Runs.val _ (op_c1 (show ρ (.tmp 1) = .pointer (some ⟨w.heap.size, 0, none⟩) from ho 1 rfl)) ⟨hg, Below.refl _ _, rfl⟩⟩
    · exact ⟨rfl, fun ρ X hg ho hc hf hr => Runs.val _ (op_load38 (show ρ (.tmp 6) = .pointer (some ⟨w.heap.size, 1, none⟩) from hr 3 6 rfl rfl) (cell_on hg c1) (cell_on hg c2) (cell_on hg c3)) ⟨hg, Below.refl _ _, rfl⟩⟩
    · exact ⟨rfl, fun ρ X hg ho hc hf hr => Runs.says hg (op_call1 hf call39 (show ρ (.tmp 7) = .agg #[.int .i64 n1, .int .i64 n2, .int .i64 n3] from hr 4 7 rfl rfl)) (hc1 _ _ rfl hg) (fun w' h1 h2 => ⟨h1, h2, rfl⟩)⟩
    · exact ⟨rfl, fun ρ X hg ho hc hf hr => Runs.val _ (op_cat (show ρ (.tmp 5) = .string (txt (num n0)) from hr 2 5 rfl rfl) (show ρ (.tmp 8) = .string (txt (encS [.num n1, .num n2, .num n3])) from hr 5 8 rfl rfl) (by first | omega | (simp only [List.length_append]; omega))) ⟨hg, Below.refl _ _, rfl⟩⟩
    · exact ⟨rfl, fun ρ X hg ho hc hf hr => Runs.val _ (op_c2 (show ρ (.tmp 1) = .pointer (some ⟨w.heap.size, 0, none⟩) from ho 1 rfl)) ⟨hg, Below.refl _ _, rfl⟩⟩
    · exact ⟨rfl, fun ρ X hg ho hc hf hr => Runs.val _ (op_load38 (show ρ (.tmp 10) = .pointer (some ⟨w.heap.size, 4, none⟩) from hr 7 10 rfl rfl) (cell_on hg c4) (cell_on hg c5) (cell_on hg c6)) ⟨hg, Below.refl _ _, rfl⟩⟩
    · exact ⟨rfl, fun ρ X hg ho hc hf hr => Runs.says hg (op_call1 hf call39 (show ρ (.tmp 11) = .agg #[.int .i64 n4, .int .i64 n5, .int .i64 n6] from hr 8 11 rfl rfl)) (hc4 _ _ rfl hg) (fun w' h1 h2 => ⟨h1, h2, rfl⟩)⟩
    · exact ⟨rfl, fun ρ X hg ho hc hf hr => Runs.val _ (op_cat (show ρ (.tmp 9) = .string (txt (num n0 ++ encS [.num n1, .num n2, .num n3])) from hr 6 9 rfl rfl) (show ρ (.tmp 12) = .string (txt (encS [.num n4, .num n5, .num n6])) from hr 9 12 rfl rfl) (by first | omega | (simp only [List.length_append]; omega))) ⟨hg, Below.refl _ _, rfl⟩⟩
    · exact ⟨rfl, fun ρ X hg ho hc hf hr => Runs.val _ (op_c3 (show ρ (.tmp 1) = .pointer (some ⟨w.heap.size, 0, none⟩) from ho 1 rfl)) ⟨hg, Below.refl _ _, rfl⟩⟩
    · exact ⟨rfl, fun ρ X hg ho hc hf hr => Runs.val _ (op_load3 (show ρ (.tmp 14) = .pointer (some ⟨w.heap.size, 7, none⟩) from hr 11 14 rfl rfl) (cell_on hg c7)) ⟨hg, Below.refl _ _, rfl⟩⟩
    · exact ⟨rfl, fun ρ X hg ho hc hf hr => Runs.says hg (op_call1 hf call38 (show ρ (.tmp 15) = .int .i64 n7 from hr 12 15 rfl rfl)) (num_ref _ _ HI7.out) (fun w' h1 h2 => ⟨h1, h2, rfl⟩)⟩
    · exact ⟨rfl, fun ρ X hg ho hc hf hr => Runs.val _ (op_cat (show ρ (.tmp 13) = .string (txt (num n0 ++ encS [.num n1, .num n2, .num n3] ++ encS [.num n4, .num n5, .num n6])) from hr 10 13 rfl rfl) (show ρ (.tmp 16) = .string (txt (num n7)) from hr 13 16 rfl rfl) (by first | omega | (simp only [List.length_append]; omega))) ⟨hg, Below.refl _ _, rfl⟩⟩
    · exact ⟨rfl, fun ρ X hg ho hc hf hr => Runs.val _ (op_c4 (show ρ (.tmp 1) = .pointer (some ⟨w.heap.size, 0, none⟩) from ho 1 rfl)) ⟨hg, Below.refl _ _, rfl⟩⟩
    · exact ⟨rfl, fun ρ X hg ho hc hf hr => Runs.val _ (op_load39 (show ρ (.tmp 18) = .pointer (some ⟨w.heap.size, 8, none⟩) from hr 15 18 rfl rfl) (cell_on hg c8)) ⟨hg, Below.refl _ _, rfl⟩⟩
    · exact ⟨rfl, fun ρ X hg ho hc hf hr => Runs.says hg (op_call1 hf call40 (show ρ (.tmp 19) = .slice ad8 n8.length cp8 from hr 16 19 rfl rfl)) (reads_ref _ (lies_on HV8.out hg) HT8.out HE8.out) (fun w' h1 h2 => ⟨h1, h2, rfl⟩)⟩
    · exact ⟨rfl, fun ρ X hg ho hc hf hr => Runs.val _ (op_cat (show ρ (.tmp 17) = .string (txt (num n0 ++ encS [.num n1, .num n2, .num n3] ++ encS [.num n4, .num n5, .num n6] ++ num n7)) from hr 14 17 rfl rfl) (show ρ (.tmp 20) = .string (txt ((At.list n8).enc)) from hr 17 20 rfl rfl) (by first | omega | (simp only [List.length_append]; omega))) ⟨hg, Below.refl _ _, rfl⟩⟩
    · exact ⟨rfl, fun ρ X hg ho hc hf hr => Runs.val _ (op_c5 (show ρ (.tmp 1) = .pointer (some ⟨w.heap.size, 0, none⟩) from ho 1 rfl)) ⟨hg, Below.refl _ _, rfl⟩⟩
    · exact ⟨rfl, fun ρ X hg ho hc hf hr => Runs.val _ (op_load40 (show ρ (.tmp 22) = .pointer (some ⟨w.heap.size, 9, none⟩) from hr 19 22 rfl rfl) (cell_on hg c9)) ⟨hg, Below.refl _ _, rfl⟩⟩
    · exact ⟨rfl, fun ρ X hg ho hc hf hr => Runs.says hg (op_call1 hf call41 (show ρ (.tmp 23) = .slice ad9 n9.length cp9 from hr 20 23 rfl rfl)) (writes_ref _ (lies_on HV9.out hg) HT9.out HE9.out) (fun w' h1 h2 => ⟨h1, h2, rfl⟩)⟩
    · exact ⟨rfl, fun ρ X hg ho hc hf hr => Runs.val _ (op_cat (show ρ (.tmp 21) = .string (txt (num n0 ++ encS [.num n1, .num n2, .num n3] ++ encS [.num n4, .num n5, .num n6] ++ num n7 ++ (At.list n8).enc)) from hr 18 21 rfl rfl) (show ρ (.tmp 24) = .string (txt ((At.list n9).enc)) from hr 21 24 rfl rfl) (by first | omega | (simp only [List.length_append]; omega))) ⟨hg, Below.refl _ _, rfl⟩⟩
    · exact ⟨rfl, fun ρ X hg ho hc hf hr => Runs.val _ (op_c6 (show ρ (.tmp 1) = .pointer (some ⟨w.heap.size, 0, none⟩) from ho 1 rfl)) ⟨hg, Below.refl _ _, rfl⟩⟩
    · exact ⟨rfl, fun ρ X hg ho hc hf hr => Runs.val _ (op_load3 (show ρ (.tmp 26) = .pointer (some ⟨w.heap.size, 10, none⟩) from hr 23 26 rfl rfl) (cell_on hg c10)) ⟨hg, Below.refl _ _, rfl⟩⟩
    · exact ⟨rfl, fun ρ X hg ho hc hf hr => Runs.val _ (op_c7 (show ρ (.tmp 1) = .pointer (some ⟨w.heap.size, 0, none⟩) from ho 1 rfl)) ⟨hg, Below.refl _ _, rfl⟩⟩
    · exact ⟨rfl, fun ρ X hg ho hc hf hr => Runs.val _ (op_load3 (show ρ (.tmp 28) = .pointer (some ⟨w.heap.size, 11, none⟩) from hr 25 28 rfl rfl) (cell_on hg c11)) ⟨hg, Below.refl _ _, rfl⟩⟩
    · exact ⟨rfl, fun ρ X hg ho hc hf hr => Runs.val _ (op_c8 (show ρ (.tmp 1) = .pointer (some ⟨w.heap.size, 0, none⟩) from ho 1 rfl)) ⟨hg, Below.refl _ _, rfl⟩⟩
    · exact ⟨rfl, fun ρ X hg ho hc hf hr => Runs.val _ (op_load3 (show ρ (.tmp 30) = .pointer (some ⟨w.heap.size, 12, none⟩) from hr 27 30 rfl rfl) (cell_on hg c12)) ⟨hg, Below.refl _ _, rfl⟩⟩
    · exact ⟨rfl, fun ρ X hg ho hc hf hr => Runs.val _ (op_c9 (show ρ (.tmp 1) = .pointer (some ⟨w.heap.size, 0, none⟩) from ho 1 rfl)) ⟨hg, Below.refl _ _, rfl⟩⟩
    · exact ⟨rfl, fun ρ X hg ho hc hf hr => Runs.val _ (op_load3 (show ρ (.tmp 32) = .pointer (some ⟨w.heap.size, 13, none⟩) from hr 29 32 rfl rfl) (cell_on hg c13)) ⟨hg, Below.refl _ _, rfl⟩⟩
    · exact ⟨rfl, fun ρ X hg ho hc hf hr => Runs.val _ (op_c10 (show ρ (.tmp 1) = .pointer (some ⟨w.heap.size, 0, none⟩) from ho 1 rfl)) ⟨hg, Below.refl _ _, rfl⟩⟩
    · exact ⟨rfl, fun ρ X hg ho hc hf hr => Runs.val _ (op_load3 (show ρ (.tmp 34) = .pointer (some ⟨w.heap.size, 14, none⟩) from hr 31 34 rfl rfl) (cell_on hg c14)) ⟨hg, Below.refl _ _, rfl⟩⟩
    · exact ⟨rfl, fun ρ X hg ho hc hf hr => Runs.made hg MK1.out (op_row5 (show ρ (.tmp 27) = .int .i64 n10 from hr 24 27 rfl rfl) (show ρ (.tmp 29) = .int .i64 n11 from hr 26 29 rfl rfl) (show ρ (.tmp 31) = .int .i64 n12 from hr 28 31 rfl rfl) (show ρ (.tmp 33) = .int .i64 n13 from hr 30 33 rfl rfl) (show ρ (.tmp 35) = .int .i64 n14 from hr 32 35 rfl rfl)) (fun w' h1 h2 h3 => ⟨h1, h2, h3⟩)⟩
    · exact ⟨rfl, fun ρ X hg ho hc hf hr => by
      obtain ⟨F, e, q⟩ : ∃ F, ρ (.tmp 36) = .slice (some ⟨F, 0, none⟩) 5 5 ∧ IntsK X F 5 [n10, n11, n12, n13, n14] := hr 33 36 rfl rfl
      exact Runs.says hg (op_call1 hf call28 e) (nums_gen (ns := [n10, n11, n12, n13, n14]) _ q) (fun w' h1 h2 => ⟨h1, h2, rfl⟩)⟩
    · exact ⟨rfl, fun ρ X hg ho hc hf hr => Runs.val _ (op_cat (show ρ (.tmp 25) = .string (txt (num n0 ++ encS [.num n1, .num n2, .num n3] ++ encS [.num n4, .num n5, .num n6] ++ num n7 ++ (At.list n8).enc ++ (At.list n9).enc)) from hr 22 25 rfl rfl) (show ρ (.tmp 37) = .string (txt (numsL [n10, n11, n12, n13, n14])) from hr 34 37 rfl rfl) (by first | omega | (simp only [List.length_append]; omega))) ⟨hg, Below.refl _ _, rfl⟩⟩
    · exact ⟨rfl, fun ρ X hg ho hc hf hr => Runs.val _ (op_c11 (show ρ (.tmp 1) = .pointer (some ⟨w.heap.size, 0, none⟩) from ho 1 rfl)) ⟨hg, Below.refl _ _, rfl⟩⟩
    · exact ⟨rfl, fun ρ X hg ho hc hf hr => Runs.val _ (op_load45 (show ρ (.tmp 39) = .pointer (some ⟨w.heap.size, 15, none⟩) from hr 36 39 rfl rfl) (cell_on hg c15) (cell_on hg c16) (cell_on hg c17) (cell_on hg c18) (cell_on hg c19) (cell_on hg c20) (cell_on hg c21) (cell_on hg c22) (cell_on hg c23) (cell_on hg c24) (cell_on hg c25)) ⟨hg, Below.refl _ _, rfl⟩⟩
    · exact ⟨rfl, fun ρ X hg ho hc hf hr => Runs.says hg (op_call1 hf call42 (show ρ (.tmp 40) = .agg #[.int .i64 n15, .string n16, .string n17, .string n18, .string n19, .bool n20, .int .i64 n21, .int .i64 n22, .int .i64 n23, .string n24, .slice ad25 n25.length cp25] from hr 37 40 rfl rfl)) (hc15 _ _ rfl hg) (fun w' h1 h2 => ⟨h1, h2, rfl⟩)⟩
    · exact ⟨rfl, fun ρ X hg ho hc hf hr => Runs.val _ (op_cat (show ρ (.tmp 38) = .string (txt (num n0 ++ encS [.num n1, .num n2, .num n3] ++ encS [.num n4, .num n5, .num n6] ++ num n7 ++ (At.list n8).enc ++ (At.list n9).enc ++ numsL [n10, n11, n12, n13, n14])) from hr 35 38 rfl rfl) (show ρ (.tmp 41) = .string (txt (encS [.num n15, .text n16, .text n17, .text n18, .text n19, .yes n20, .num n21, .num n22, .num n23, .text n24, .list n25])) from hr 38 41 rfl rfl) (by first | omega | (simp only [List.length_append]; omega))) ⟨hg, Below.refl _ _, rfl⟩⟩
    · exact ⟨rfl, fun ρ X hg ho hc hf hr => Runs.val _ (op_c12 (show ρ (.tmp 1) = .pointer (some ⟨w.heap.size, 0, none⟩) from ho 1 rfl)) ⟨hg, Below.refl _ _, rfl⟩⟩
    · exact ⟨rfl, fun ρ X hg ho hc hf hr => Runs.val _ (op_load3 (show ρ (.tmp 43) = .pointer (some ⟨w.heap.size, 26, none⟩) from hr 40 43 rfl rfl) (cell_on hg c26)) ⟨hg, Below.refl _ _, rfl⟩⟩
    · exact ⟨rfl, fun ρ X hg ho hc hf hr => Runs.val _ (op_c13 (show ρ (.tmp 1) = .pointer (some ⟨w.heap.size, 0, none⟩) from ho 1 rfl)) ⟨hg, Below.refl _ _, rfl⟩⟩
    · exact ⟨rfl, fun ρ X hg ho hc hf hr => Runs.val _ (op_load3 (show ρ (.tmp 45) = .pointer (some ⟨w.heap.size, 27, none⟩) from hr 42 45 rfl rfl) (cell_on hg c27)) ⟨hg, Below.refl _ _, rfl⟩⟩
    · exact ⟨rfl, fun ρ X hg ho hc hf hr => Runs.made hg MK2.out (op_row2 (show ρ (.tmp 44) = .int .i64 n26 from hr 41 44 rfl rfl) (show ρ (.tmp 46) = .int .i64 n27 from hr 43 46 rfl rfl)) (fun w' h1 h2 h3 => ⟨h1, h2, h3⟩)⟩
    · exact ⟨rfl, fun ρ X hg ho hc hf hr => by
      obtain ⟨F, e, q⟩ : ∃ F, ρ (.tmp 47) = .slice (some ⟨F, 0, none⟩) 2 2 ∧ IntsK X F 2 [n26, n27] := hr 44 47 rfl rfl
      exact Runs.says hg (op_call1 hf call28 e) (nums_gen (ns := [n26, n27]) _ q) (fun w' h1 h2 => ⟨h1, h2, rfl⟩)⟩
    · exact ⟨rfl, fun ρ X hg ho hc hf hr => Runs.val _ (op_cat (show ρ (.tmp 42) = .string (txt (num n0 ++ encS [.num n1, .num n2, .num n3] ++ encS [.num n4, .num n5, .num n6] ++ num n7 ++ (At.list n8).enc ++ (At.list n9).enc ++ numsL [n10, n11, n12, n13, n14] ++ encS [.num n15, .text n16, .text n17, .text n18, .text n19, .yes n20, .num n21, .num n22, .num n23, .text n24, .list n25])) from hr 39 42 rfl rfl) (show ρ (.tmp 48) = .string (txt (numsL [n26, n27])) from hr 45 48 rfl rfl) (by first | omega | (simp only [List.length_append]; omega))) ⟨hg, Below.refl _ _, rfl⟩⟩
    · exact ⟨rfl, fun ρ X hg ho hc hf hr => Runs.val _ (op_c14 (show ρ (.tmp 1) = .pointer (some ⟨w.heap.size, 0, none⟩) from ho 1 rfl)) ⟨hg, Below.refl _ _, rfl⟩⟩
    · exact ⟨rfl, fun ρ X hg ho hc hf hr => Runs.val _ (op_load9 (show ρ (.tmp 50) = .pointer (some ⟨w.heap.size, 28, none⟩) from hr 47 50 rfl rfl) (cell_on hg c28)) ⟨hg, Below.refl _ _, rfl⟩⟩
    · exact ⟨rfl, fun ρ X hg ho hc hf hr => Runs.says hg (op_call1 hf call31 (show ρ (.tmp 51) = .string n28 from hr 48 51 rfl rfl)) (text_ref _ _ s28) (fun w' h1 h2 => ⟨h1, h2, rfl⟩)⟩
    · exact ⟨rfl, fun ρ X hg ho hc hf hr => Runs.val _ (op_cat (show ρ (.tmp 49) = .string (txt (num n0 ++ encS [.num n1, .num n2, .num n3] ++ encS [.num n4, .num n5, .num n6] ++ num n7 ++ (At.list n8).enc ++ (At.list n9).enc ++ numsL [n10, n11, n12, n13, n14] ++ encS [.num n15, .text n16, .text n17, .text n18, .text n19, .yes n20, .num n21, .num n22, .num n23, .text n24, .list n25] ++ numsL [n26, n27])) from hr 46 49 rfl rfl) (show ρ (.tmp 52) = .string (txt ((At.text n28).enc)) from hr 49 52 rfl rfl) (by first | omega | (simp only [List.length_append]; omega))) ⟨hg, Below.refl _ _, rfl⟩⟩
    · exact ⟨rfl, fun ρ X hg ho hc hf hr => Runs.val _ (op_c15 (show ρ (.tmp 1) = .pointer (some ⟨w.heap.size, 0, none⟩) from ho 1 rfl)) ⟨hg, Below.refl _ _, rfl⟩⟩
    · exact ⟨rfl, fun ρ X hg ho hc hf hr => Runs.val _ (op_load27 (show ρ (.tmp 54) = .pointer (some ⟨w.heap.size, 29, none⟩) from hr 51 54 rfl rfl) (cell_on hg c29)) ⟨hg, Below.refl _ _, rfl⟩⟩
    · exact ⟨rfl, fun ρ X hg ho hc hf hr => Runs.says hg (op_call1 hf call38 (show ρ (.tmp 55) = .int .i64 n29 from hr 52 55 rfl rfl)) (num_ref _ _ HI29.out) (fun w' h1 h2 => ⟨h1, h2, rfl⟩)⟩
    · exact ⟨rfl, fun ρ X hg ho hc hf hr => Runs.val _ (op_cat (show ρ (.tmp 53) = .string (txt (num n0 ++ encS [.num n1, .num n2, .num n3] ++ encS [.num n4, .num n5, .num n6] ++ num n7 ++ (At.list n8).enc ++ (At.list n9).enc ++ numsL [n10, n11, n12, n13, n14] ++ encS [.num n15, .text n16, .text n17, .text n18, .text n19, .yes n20, .num n21, .num n22, .num n23, .text n24, .list n25] ++ numsL [n26, n27] ++ (At.text n28).enc)) from hr 50 53 rfl rfl) (show ρ (.tmp 56) = .string (txt (num n29)) from hr 53 56 rfl rfl) (by first | omega | (simp only [List.length_append]; omega))) ⟨hg, Below.refl _ _, rfl⟩⟩
    · exact ⟨rfl, fun ρ X hg ho hc hf hr => Runs.val _ (op_assign (show ρ (.tmp 57) = .string (txt (num n0 ++ encS [.num n1, .num n2, .num n3] ++ encS [.num n4, .num n5, .num n6] ++ num n7 ++ (At.list n8).enc ++ (At.list n9).enc ++ numsL [n10, n11, n12, n13, n14] ++ encS [.num n15, .text n16, .text n17, .text n18, .text n19, .yes n20, .num n21, .num n22, .num n23, .text n24, .list n25] ++ numsL [n26, n27] ++ (At.text n28).enc ++ num n29)) from hr 54 57 rfl rfl)) ⟨hg, Below.refl _ _, rfl⟩⟩
  case en =>
    intro a X hg hs hd ho hr
    obtain ⟨x, hx, hxt⟩ := act_is (n := 58) hs hd
    have x2 : x 2 = .string (txt (num n0 ++ encS [.num n1, .num n2, .num n3] ++ encS [.num n4, .num n5, .num n6] ++ num n7 ++ (At.list n8).enc ++ (At.list n9).enc ++ numsL [n10, n11, n12, n13, n14] ++ encS [.num n15, .text n16, .text n17, .text n18, .text n19, .yes n20, .num n21, .num n22, .num n23, .text n24, .list n25] ++ numsL [n26, n27] ++ (At.text n28).enc ++ num n29)) := (hxt 2).symm.trans (hr 55 2 rfl)
    rw [show List.range 58 = [0, 1, 2, 3, 4, 5, 6, 7, 8, 9, 10, 11, 12, 13, 14, 15, 16, 17, 18, 19, 20, 21, 22, 23, 24, 25, 26, 27, 28, 29, 30, 31, 32, 33, 34, 35, 36, 37, 38, 39, 40, 41, 42, 43, 44, 45, 46, 47, 48, 49, 50, 51, 52, 53, 54, 55, 56, 57] from rfl] at hx
    simp only [List.map_cons, List.map_nil, x2] at hx
    have HG := Lib.hid hg
    clear hg hs hd ho hr hxt x2
    subst hx
    go_wp2
    go_ret
    exact ⟨rfl, bel_trans HBW.out HG.out⟩
end Go.Proofs.Ytjhgmncmcklnkaa
