/- The document's Delta. -/
import Derived.Test.YtjhgmncmcklnkaaVD
import Derived.Test.YtjhgmncmcklnkaaVMn
namespace Go.Proofs.Ytjhgmncmcklnkaa
open Go.RowKit

set_option maxHeartbeats 8000000 in
set_option maxRecDepth 100000 in
theorem delta_ref (w : World) {x : List At} {vs : List Value} (hx0 : hasS deltaT x) (hv0 : valsS w NoS x vs) (hl : (encS x).length ≤ 1000000000) : Calls Try.prog 15 #[.agg vs.toArray] w fun e w' => e = .returned (.string (txt (encS x))) ∧ Below w.heap.size w w' := by
  obtain ⟨a0, x0, rfl, k0, hx_0⟩ := hasS_cons hx0
  obtain ⟨n0, rfl, i0⟩ := has_num k0
  obtain ⟨u0, r0, rfl, l0, hv_0⟩ := valsS_cons hv0
  obtain rfl := lies_num l0
  obtain ⟨a1, x1, rfl, k1, hx_1⟩ := hasS_cons hx_0
  obtain ⟨n1, rfl, i1⟩ := has_num k1
  obtain ⟨u1, r1, rfl, l1, hv_1⟩ := valsS_cons hv_0
  obtain rfl := lies_num l1
  obtain ⟨a2, x2, rfl, k2, hx_2⟩ := hasS_cons hx_1
  obtain ⟨n2, rfl⟩ := has_yes k2
  obtain ⟨u2, r2, rfl, l2, hv_2⟩ := valsS_cons hv_1
  obtain rfl := lies_yes l2
  obtain ⟨a3, x3, rfl, k3, hx_3⟩ := hasS_cons hx_2
  obtain ⟨n3, rfl, i3⟩ := has_num k3
  obtain ⟨u3, r3, rfl, l3, hv_3⟩ := valsS_cons hv_2
  obtain rfl := lies_num l3
  obtain ⟨a4, x4, rfl, k4, hx_4⟩ := hasS_cons hx_3
  obtain ⟨n4, rfl, i4⟩ := has_num k4
  obtain ⟨u4, r4, rfl, l4, hv_4⟩ := valsS_cons hv_3
  obtain rfl := lies_num l4
  obtain ⟨a5, x5, rfl, k5, hx_5⟩ := hasS_cons hx_4
  obtain ⟨n5, rfl, i5⟩ := has_text k5
  obtain ⟨u5, r5, rfl, l5, hv_5⟩ := valsS_cons hv_4
  obtain rfl := lies_text l5
  obtain ⟨a6, x6, rfl, k6, hx_6⟩ := hasS_cons hx_5
  obtain ⟨n6, rfl, i6⟩ := has_num k6
  obtain ⟨u6, r6, rfl, l6, hv_6⟩ := valsS_cons hv_5
  obtain rfl := lies_num l6
  obtain ⟨a7, x7, rfl, k7, hx_7⟩ := hasS_cons hx_6
  obtain ⟨n7, rfl, m7, i7⟩ := has_list k7
  obtain ⟨u7, r7, rfl, l7, hv_7⟩ := valsS_cons hv_6
  obtain ⟨ad7, cp7, rfl⟩ := lies_list l7
  obtain rfl := hasS_end hx_7
  obtain rfl := valsS_end hv_7
  have es : encS [.num n0, .num n1, .yes n2, .num n3, .num n4, .text n5, .num n6, .list n7] = numsL [n0, n1] ++ (At.yes n2).enc ++ numsL [n3, n4] ++ (At.text n5).enc ++ numsL [n6] ++ (At.list n7).enc := by
    simp [numsL, encS, At.enc]
  rw [es] at hl ⊢
  simp only [List.length_append] at hl
  have HES := Lib.hid es
  obtain ⟨W, hW⟩ : ∃ W, W = w.alloc (.cells #[.int .i64 n0, .int .i64 n1, .bool n2, .int .i64 n3, .int .i64 n4, .string n5, .int .i64 n6, .slice ad7 n7.length cp7] 32) := ⟨_, rfl⟩
  have hbW : Below w.heap.size w W := by rw [hW]; exact (Below.refl _ _).alloc (Nat.le_refl _) _
  have hbk : W.heap[w.heap.size]? = some (.cells #[.int .i64 n0, .int .i64 n1, .bool n2, .int .i64 n3, .int .i64 n4, .string n5, .int .i64 n6, .slice ad7 n7.length cp7] 32 (0, 0)) := by rw [hW]; exact heap_alloc_new w _
  have c0 : W.cell? ⟨w.heap.size, 0, none⟩ = some (.int .i64 n0) := cell_blk hbk 0
  have c1 : W.cell? ⟨w.heap.size, 1, none⟩ = some (.int .i64 n1) := cell_blk hbk 1
  have c2 : W.cell? ⟨w.heap.size, 2, none⟩ = some (.bool n2) := cell_blk hbk 2
  have c3 : W.cell? ⟨w.heap.size, 3, none⟩ = some (.int .i64 n3) := cell_blk hbk 3
  have c4 : W.cell? ⟨w.heap.size, 4, none⟩ = some (.int .i64 n4) := cell_blk hbk 4
  have c5 : W.cell? ⟨w.heap.size, 5, none⟩ = some (.string n5) := cell_blk hbk 5
  have c6 : W.cell? ⟨w.heap.size, 6, none⟩ = some (.int .i64 n6) := cell_blk hbk 6
  have c7 : W.cell? ⟨w.heap.size, 7, none⟩ = some (.slice ad7 n7.length cp7) := cell_blk hbk 7
  have MK1 : Hid (Mk #[.int .i64 n0, .int .i64 n1] 2 [n0, n1]) := by
    refine ⟨fun i h => ?_, rfl, by omega, ?_⟩
    · have : i = 0 ∨ i = 1 := by simp at h; omega
      rcases this with rfl | rfl <;> rfl
    · intro n hn
      simp at hn
      rcases hn with rfl | rfl
      · exact i0
      · exact i1
  have MK2 : Hid (Mk #[.int .i64 n3, .int .i64 n4] 2 [n3, n4]) := by
    refine ⟨fun i h => ?_, rfl, by omega, ?_⟩
    · have : i = 0 ∨ i = 1 := by simp at h; omega
      rcases this with rfl | rfl <;> rfl
    · intro n hn
      simp at hn
      rcases hn with rfl | rfl
      · exact i3
      · exact i4
  have s5 : n5.size ≤ 1000000000 := text_size (by omega)
  have MK3 : Hid (Mk #[.int .i64 n6] 1 [n6]) := by
    refine ⟨fun i h => ?_, rfl, by omega, ?_⟩
    · have : i = 0 := by simpa using h
      subst this
      rfl
    · intro n hn
      simp at hn
      subst hn
      exact i6
  have HV7 := Lib.hid (lies_on l7 hbW)
  have HT7 := Lib.hid i7
  have HE7 : Hid ((At.list n7).enc.length ≤ 1000000000) := by show _ ≤ _; omega
  have hsum1 : ¬ 9223372036854775807 < (txt (numsL [n0, n1])).size + (txt ((At.yes n2).enc)).size := by
    simp only [txt_size]
    omega
  have hsum2 : ¬ 9223372036854775807 < (txt (numsL [n0, n1])).size + (txt ((At.yes n2).enc)).size + (txt (numsL [n3, n4])).size := by
    simp only [txt_size]
    omega
  have hsum3 : ¬ 9223372036854775807 < (txt (numsL [n0, n1])).size + (txt ((At.yes n2).enc)).size + (txt (numsL [n3, n4])).size + (txt ((At.text n5).enc)).size := by
    simp only [txt_size]
    omega
  have hsum4 : ¬ 9223372036854775807 < (txt (numsL [n0, n1])).size + (txt ((At.yes n2).enc)).size + (txt (numsL [n3, n4])).size + (txt ((At.text n5).enc)).size + (txt (numsL [n6])).size := by
    simp only [txt_size]
    omega
  have hsum5 : ¬ 9223372036854775807 < (txt (numsL [n0, n1])).size + (txt ((At.yes n2).enc)).size + (txt (numsL [n3, n4])).size + (txt ((At.text n5).enc)).size + (txt (numsL [n6])).size + (txt ((At.list n7).enc)).size := by
    simp only [txt_size]
    omega
  have HK : Hid (∀ X, Below W.heap.size W X → X.cell? ⟨w.heap.size, 0, none⟩ = some (.int .i64 n0) ∧ X.cell? ⟨w.heap.size, 1, none⟩ = some (.int .i64 n1) ∧ X.cell? ⟨w.heap.size, 2, none⟩ = some (.bool n2) ∧ X.cell? ⟨w.heap.size, 3, none⟩ = some (.int .i64 n3) ∧ X.cell? ⟨w.heap.size, 4, none⟩ = some (.int .i64 n4) ∧ X.cell? ⟨w.heap.size, 5, none⟩ = some (.string n5) ∧ X.cell? ⟨w.heap.size, 6, none⟩ = some (.int .i64 n6) ∧ X.cell? ⟨w.heap.size, 7, none⟩ = some (.slice ad7 n7.length cp7) ∧ Hid (Below W.heap.size W X)) := fun X q => ⟨cell_on q c0, cell_on q c1, cell_on q c2, cell_on q c3, cell_on q c4, cell_on q c5, cell_on q c6, cell_on q c7, Lib.hid q⟩
  have HW := Lib.hid hW
  have HBW := Lib.hid hbW
  clear hW hbW hbk es hl k0 hx_0 hv_0 l0 i0 k1 hx_1 hv_1 l1 i1 k2 hx_2 hv_2 l2 k3 hx_3 hv_3 l3 i3 k4 hx_4 hv_4 l4 i4 k5 hx_5 hv_5 l5 i5 k6 hx_6 hv_6 l6 i6 k7 hx_7 hv_7 l7 i7 m7 hx0 hv0
  go_enter Try.func15, Try.ntmps15
  go_upto_region 1 with fail
  rw [← HW.out]
  go_region_held3 (fun X => X.cell? ⟨w.heap.size, 0, none⟩ = some (.int .i64 n0) ∧ X.cell? ⟨w.heap.size, 1, none⟩ = some (.int .i64 n1) ∧ X.cell? ⟨w.heap.size, 2, none⟩ = some (.bool n2) ∧ X.cell? ⟨w.heap.size, 3, none⟩ = some (.int .i64 n3) ∧ X.cell? ⟨w.heap.size, 4, none⟩ = some (.int .i64 n4) ∧ X.cell? ⟨w.heap.size, 5, none⟩ = some (.string n5) ∧ X.cell? ⟨w.heap.size, 6, none⟩ = some (.int .i64 n6) ∧ X.cell? ⟨w.heap.size, 7, none⟩ = some (.slice ad7 n7.length cp7) ∧ Hid (Below W.heap.size W X)) (exact HK.out _ (by repeat (first | exact Below.refl _ _ | exact hx.out | apply bel_drew1 | apply bel_alloc))) (first
    | (go_at_call 30; refine (entrys_ref _ (lies_on HV7.out (by repeat (first | exact Below.refl _ _ | exact hx.out | apply bel_drew1 | apply bel_alloc))) HT7.out HE7.out).mono ?_; rintro ee X ⟨rfl, hy⟩; have hx : Hid (Below W.heap.size W X) := bel_trans (by repeat (first | exact Below.refl _ _ | exact hx.out | apply bel_drew1 | apply bel_alloc)) hy)
    | (go_at_call 28; refine Calls.mono (nums_gen (ns := [n0, n1]) _ ?_) ?_; (focus ((repeat (first | ((with_reducible refine IntsK.new MK1.out ?_) <;> simp) | (with_reducible apply IntsK.drew) | (with_reducible apply IntsK.alloc) | (with_reducible refine IntsK.onN (by assumption) (by simp) ?_))); done)); rintro ee X ⟨rfl, hy⟩; have hx : Hid (Below W.heap.size W X) := bel_trans (by repeat (first | exact Below.refl _ _ | exact hx.out | apply bel_drew1 | apply bel_alloc)) hy)
    | (go_at_call 28; refine Calls.mono (nums_gen (ns := [n3, n4]) _ ?_) ?_; (focus ((repeat (first | ((with_reducible refine IntsK.new MK2.out ?_) <;> simp) | (with_reducible apply IntsK.drew) | (with_reducible apply IntsK.alloc) | (with_reducible refine IntsK.onN (by assumption) (by simp) ?_))); done)); rintro ee X ⟨rfl, hy⟩; have hx : Hid (Below W.heap.size W X) := bel_trans (by repeat (first | exact Below.refl _ _ | exact hx.out | apply bel_drew1 | apply bel_alloc)) hy)
    | (go_at_call 28; refine Calls.mono (nums_gen (ns := [n6]) _ ?_) ?_; (focus ((repeat (first | ((with_reducible refine IntsK.new MK3.out ?_) <;> simp) | (with_reducible apply IntsK.drew) | (with_reducible apply IntsK.alloc) | (with_reducible refine IntsK.onN (by assumption) (by simp) ?_))); done)); rintro ee X ⟨rfl, hy⟩; have hx : Hid (Below W.heap.size W X) := bel_trans (by repeat (first | exact Below.refl _ _ | exact hx.out | apply bel_drew1 | apply bel_alloc)) hy)
    | (go_at_call 29; refine (flag_ref _ _).mono ?_; rintro ee X ⟨rfl, hy⟩; have hx : Hid (Below W.heap.size W X) := bel_trans (by repeat (first | exact Below.refl _ _ | exact hx.out | apply bel_drew1 | apply bel_alloc)) hy)
    | (go_at_call 31; refine (text_ref _ _ (by assumption)).mono ?_; rintro ee X ⟨rfl, hy⟩; have hx : Hid (Below W.heap.size W X) := bel_trans (by repeat (first | exact Below.refl _ _ | exact hx.out | apply bel_drew1 | apply bel_alloc)) hy))
  all_goals
    go_wp2
    go_ret
    refine ⟨?_, bel_trans HBW.out hx.out⟩
    simp only [← txt_append]
    rfl
end Go.Proofs.Ytjhgmncmcklnkaa
