/- The document's Msg. -/
import Derived.Test.YtjhgmncmcklnkaaVD
import Derived.Test.YtjhgmncmcklnkaaVMm
namespace Go.Proofs.Ytjhgmncmcklnkaa
open Go.RowKit

set_option maxHeartbeats 8000000 in
set_option maxRecDepth 100000 in
theorem msg_ref (w : World) {x : List At} {vs : List Value} (hx0 : hasS msgT x) (hv0 : valsS w NoS x vs) (hl : (encS x).length ≤ 1000000000) : Calls Try.prog 12 #[.agg vs.toArray] w fun e w' => e = .returned (.string (txt (encS x))) ∧ Below w.heap.size w w' := by
  obtain ⟨a0, x0, rfl, k0, hx_0⟩ := hasS_cons hx0
  obtain ⟨n0, rfl, i0⟩ := has_num k0
  obtain ⟨u0, r0, rfl, l0, hv_0⟩ := valsS_cons hv0
  obtain rfl := lies_num l0
  obtain ⟨a1, x1, rfl, k1, hx_1⟩ := hasS_cons hx_0
  obtain ⟨n1, rfl, i1⟩ := has_num k1
  obtain ⟨u1, r1, rfl, l1, hv_1⟩ := valsS_cons hv_0
  obtain rfl := lies_num l1
  obtain ⟨a2, x2, rfl, k2, hx_2⟩ := hasS_cons hx_1
  obtain ⟨n2, rfl, i2⟩ := has_num k2
  obtain ⟨u2, r2, rfl, l2, hv_2⟩ := valsS_cons hv_1
  obtain rfl := lies_num l2
  obtain ⟨a3, x3, rfl, k3, hx_3⟩ := hasS_cons hx_2
  obtain ⟨n3, rfl, i3⟩ := has_num k3
  obtain ⟨u3, r3, rfl, l3, hv_3⟩ := valsS_cons hv_2
  obtain rfl := lies_num l3
  obtain ⟨a4, x4, rfl, k4, hx_4⟩ := hasS_cons hx_3
  obtain ⟨n4, rfl, i4⟩ := has_num k4
  obtain ⟨u4, r4, rfl, l4, hv_4⟩ := valsS_cons hv_3
  obtain rfl := lies_num l4
  obtain ⟨a5, x5, rfl, k5, hx_5⟩ := hasS_cons hx_4
  obtain ⟨n5, rfl, i5⟩ := has_num k5
  obtain ⟨u5, r5, rfl, l5, hv_5⟩ := valsS_cons hv_4
  obtain rfl := lies_num l5
  obtain ⟨a6, x6, rfl, k6, hx_6⟩ := hasS_cons hx_5
  obtain ⟨n6, rfl, i6⟩ := has_num k6
  obtain ⟨u6, r6, rfl, l6, hv_6⟩ := valsS_cons hv_5
  obtain rfl := lies_num l6
  obtain ⟨a7, x7, rfl, k7, hx_7⟩ := hasS_cons hx_6
  obtain ⟨n7, rfl⟩ := has_yes k7
  obtain ⟨u7, r7, rfl, l7, hv_7⟩ := valsS_cons hv_6
  obtain rfl := lies_yes l7
  obtain ⟨a8, x8, rfl, k8, hx_8⟩ := hasS_cons hx_7
  obtain ⟨n8, rfl, m8, i8⟩ := has_list k8
  obtain ⟨u8, r8, rfl, l8, hv_8⟩ := valsS_cons hv_7
  obtain ⟨ad8, cp8, rfl⟩ := lies_list l8
  obtain ⟨a9, x9, rfl, k9, hx_9⟩ := hasS_cons hx_8
  obtain ⟨n9, rfl, i9⟩ := has_text k9
  obtain ⟨u9, r9, rfl, l9, hv_9⟩ := valsS_cons hv_8
  obtain rfl := lies_text l9
  obtain rfl := hasS_end hx_9
  obtain rfl := valsS_end hv_9
  have es : encS [.num n0, .num n1, .num n2, .num n3, .num n4, .num n5, .num n6, .yes n7, .list n8, .text n9] = numsL [n0, n1, n2, n3, n4, n5, n6] ++ (At.yes n7).enc ++ (At.list n8).enc ++ (At.text n9).enc := by
    simp [numsL, encS, At.enc]
  rw [es] at hl ⊢
  simp only [List.length_append] at hl
  have HES := Lib.hid es
  obtain ⟨W, hW⟩ : ∃ W, W = w.alloc (.cells #[.int .i64 n0, .int .i64 n1, .int .i64 n2, .int .i64 n3, .int .i64 n4, .int .i64 n5, .int .i64 n6, .bool n7, .slice ad8 n8.length cp8, .string n9] 24) := ⟨_, rfl⟩
  have hbW : Below w.heap.size w W := by rw [hW]; exact (Below.refl _ _).alloc (Nat.le_refl _) _
  have hbk : W.heap[w.heap.size]? = some (.cells #[.int .i64 n0, .int .i64 n1, .int .i64 n2, .int .i64 n3, .int .i64 n4, .int .i64 n5, .int .i64 n6, .bool n7, .slice ad8 n8.length cp8, .string n9] 24 (0, 0)) := by rw [hW]; exact heap_alloc_new w _
  have c0 : W.cell? ⟨w.heap.size, 0, none⟩ = some (.int .i64 n0) := cell_blk hbk 0
  have c1 : W.cell? ⟨w.heap.size, 1, none⟩ = some (.int .i64 n1) := cell_blk hbk 1
  have c2 : W.cell? ⟨w.heap.size, 2, none⟩ = some (.int .i64 n2) := cell_blk hbk 2
  have c3 : W.cell? ⟨w.heap.size, 3, none⟩ = some (.int .i64 n3) := cell_blk hbk 3
  have c4 : W.cell? ⟨w.heap.size, 4, none⟩ = some (.int .i64 n4) := cell_blk hbk 4
  have c5 : W.cell? ⟨w.heap.size, 5, none⟩ = some (.int .i64 n5) := cell_blk hbk 5
  have c6 : W.cell? ⟨w.heap.size, 6, none⟩ = some (.int .i64 n6) := cell_blk hbk 6
  have c7 : W.cell? ⟨w.heap.size, 7, none⟩ = some (.bool n7) := cell_blk hbk 7
  have c8 : W.cell? ⟨w.heap.size, 8, none⟩ = some (.slice ad8 n8.length cp8) := cell_blk hbk 8
  have c9 : W.cell? ⟨w.heap.size, 9, none⟩ = some (.string n9) := cell_blk hbk 9
  have MK1 : Hid (Mk #[.int .i64 n0, .int .i64 n1, .int .i64 n2, .int .i64 n3, .int .i64 n4, .int .i64 n5, .int .i64 n6] 7 [n0, n1, n2, n3, n4, n5, n6]) := by
    refine ⟨fun i h => ?_, rfl, by omega, ?_⟩
    · have : i = 0 ∨ i = 1 ∨ i = 2 ∨ i = 3 ∨ i = 4 ∨ i = 5 ∨ i = 6 := by simp at h; omega
      rcases this with rfl | rfl | rfl | rfl | rfl | rfl | rfl <;> rfl
    · intro n hn
      simp at hn
      rcases hn with rfl | rfl | rfl | rfl | rfl | rfl | rfl
      · exact i0
      · exact i1
      · exact i2
      · exact i3
      · exact i4
      · exact i5
      · exact i6
  have HV8 := Lib.hid (lies_on l8 hbW)
  have HT8 := Lib.hid i8
  have HE8 : Hid ((At.list n8).enc.length ≤ 1000000000) := by show _ ≤ _; omega
  have s9 : n9.size ≤ 1000000000 := text_size (by omega)
  have hsum1 : ¬ 9223372036854775807 < (txt (numsL [n0, n1, n2, n3, n4, n5, n6])).size + (txt ((At.yes n7).enc)).size := by
    simp only [txt_size]
    omega
  have hsum2 : ¬ 9223372036854775807 < (txt (numsL [n0, n1, n2, n3, n4, n5, n6])).size + (txt ((At.yes n7).enc)).size + (txt ((At.list n8).enc)).size := by
    simp only [txt_size]
    omega
  have hsum3 : ¬ 9223372036854775807 < (txt (numsL [n0, n1, n2, n3, n4, n5, n6])).size + (txt ((At.yes n7).enc)).size + (txt ((At.list n8).enc)).size + (txt ((At.text n9).enc)).size := by
    simp only [txt_size]
    omega
  have HK : Hid (∀ X, Below W.heap.size W X → X.cell? ⟨w.heap.size, 0, none⟩ = some (.int .i64 n0) ∧ X.cell? ⟨w.heap.size, 1, none⟩ = some (.int .i64 n1) ∧ X.cell? ⟨w.heap.size, 2, none⟩ = some (.int .i64 n2) ∧ X.cell? ⟨w.heap.size, 3, none⟩ = some (.int .i64 n3) ∧ X.cell? ⟨w.heap.size, 4, none⟩ = some (.int .i64 n4) ∧ X.cell? ⟨w.heap.size, 5, none⟩ = some (.int .i64 n5) ∧ X.cell? ⟨w.heap.size, 6, none⟩ = some (.int .i64 n6) ∧ X.cell? ⟨w.heap.size, 7, none⟩ = some (.bool n7) ∧ X.cell? ⟨w.heap.size, 8, none⟩ = some (.slice ad8 n8.length cp8) ∧ X.cell? ⟨w.heap.size, 9, none⟩ = some (.string n9) ∧ Below W.heap.size W X) := fun X q => ⟨cell_on q c0, cell_on q c1, cell_on q c2, cell_on q c3, cell_on q c4, cell_on q c5, cell_on q c6, cell_on q c7, cell_on q c8, cell_on q c9, q⟩
  have HW := Lib.hid hW
  have HBW := Lib.hid hbW
  clear hW hbW hbk es hl k0 hx_0 hv_0 l0 i0 k1 hx_1 hv_1 l1 i1 k2 hx_2 hv_2 l2 i2 k3 hx_3 hv_3 l3 i3 k4 hx_4 hv_4 l4 i4 k5 hx_5 hv_5 l5 i5 k6 hx_6 hv_6 l6 i6 k7 hx_7 hv_7 l7 k8 hx_8 hv_8 l8 i8 m8 k9 hx_9 hv_9 l9 i9 hx0 hv0
  go_enter Try.func12, Try.ntmps12
  go_upto_region 1 with fail
  rw [← HW.out]
  go_region_held3 (fun X => X.cell? ⟨w.heap.size, 0, none⟩ = some (.int .i64 n0) ∧ X.cell? ⟨w.heap.size, 1, none⟩ = some (.int .i64 n1) ∧ X.cell? ⟨w.heap.size, 2, none⟩ = some (.int .i64 n2) ∧ X.cell? ⟨w.heap.size, 3, none⟩ = some (.int .i64 n3) ∧ X.cell? ⟨w.heap.size, 4, none⟩ = some (.int .i64 n4) ∧ X.cell? ⟨w.heap.size, 5, none⟩ = some (.int .i64 n5) ∧ X.cell? ⟨w.heap.size, 6, none⟩ = some (.int .i64 n6) ∧ X.cell? ⟨w.heap.size, 7, none⟩ = some (.bool n7) ∧ X.cell? ⟨w.heap.size, 8, none⟩ = some (.slice ad8 n8.length cp8) ∧ X.cell? ⟨w.heap.size, 9, none⟩ = some (.string n9) ∧ Below W.heap.size W X) (exact HK.out _ (by repeat (first | exact Below.refl _ _ | exact hx.out | apply bel_drew1 | apply bel_alloc))) (first
    | (go_at_call 30; refine (entrys_ref _ (lies_on HV8.out (by repeat (first | exact Below.refl _ _ | exact hx.out | apply bel_drew1 | apply bel_alloc))) HT8.out HE8.out).mono ?_; rintro ee X ⟨rfl, hy⟩; have hx : Hid (Below W.heap.size W X) := bel_trans (by repeat (first | exact Below.refl _ _ | exact hx.out | apply bel_drew1 | apply bel_alloc)) hy)
    | (go_at_call 28; refine (nums_gen _ (by repeat (first | exact IntsK.new MK1.out (by simp) | apply IntsK.drew | apply IntsK.alloc | refine IntsK.on ?_ (by assumption)))).mono ?_; rintro ee X ⟨rfl, hy⟩; have hx : Hid (Below W.heap.size W X) := bel_trans (by repeat (first | exact Below.refl _ _ | exact hx.out | apply bel_drew1 | apply bel_alloc)) hy)
    | (go_at_call 29; refine (flag_ref _ _).mono ?_; rintro ee X ⟨rfl, hy⟩; have hx : Hid (Below W.heap.size W X) := bel_trans (by repeat (first | exact Below.refl _ _ | exact hx.out | apply bel_drew1 | apply bel_alloc)) hy)
    | (go_at_call 31; refine (text_ref _ _ (by assumption)).mono ?_; rintro ee X ⟨rfl, hy⟩; have hx : Hid (Below W.heap.size W X) := bel_trans (by repeat (first | exact Below.refl _ _ | exact hx.out | apply bel_drew1 | apply bel_alloc)) hy))
  all_goals
    go_wp2
    go_ret
    refine ⟨?_, bel_trans HBW.out hx.out⟩
    simp only [← txt_append]
    rfl
end Go.Proofs.Ytjhgmncmcklnkaa
