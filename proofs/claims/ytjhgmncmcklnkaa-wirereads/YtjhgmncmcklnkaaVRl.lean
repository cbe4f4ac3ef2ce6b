/- The document's value. -/
import Derived.Test.YtjhgmncmcklnkaaVD
import Derived.Test.YtjhgmncmcklnkaaVMc
namespace Go.Proofs.Ytjhgmncmcklnkaa
open Go.RowKit

set_option maxHeartbeats 8000000 in
set_option maxRecDepth 100000 in
theorem value_ref (w : World) {x : List At} {vs : List Value} (hx0 : hasS valueT x) (hv0 : valsS w NoS x vs) (hl : (encS x).length ≤ 1000000000) : Calls Try.prog 64 #[.agg vs.toArray] w fun e w' => e = .returned (.string (txt (encS x))) ∧ Below w.heap.size w w' := by
  obtain ⟨a0, x0, rfl, k0, hx_0⟩ := hasS_cons hx0
  obtain ⟨n0, rfl, i0⟩ := has_num k0
  obtain ⟨u0, r0, rfl, l0, hv_0⟩ := valsS_cons hv0
  obtain rfl := lies_num l0
  obtain ⟨a1, x1, rfl, k1, hx_1⟩ := hasS_cons hx_0
  obtain ⟨n1, rfl, i1⟩ := has_num k1
  obtain ⟨u1, r1, rfl, l1, hv_1⟩ := valsS_cons hv_0
  obtain rfl := lies_num l1
  obtain ⟨a2, x2, rfl, k2, hx_2⟩ := hasS_cons hx_1
  obtain ⟨n2, rfl, i2⟩ := has_text k2
  obtain ⟨u2, r2, rfl, l2, hv_2⟩ := valsS_cons hv_1
  obtain rfl := lies_text l2
  obtain rfl := hasS_end hx_2
  obtain rfl := valsS_end hv_2
  have es : encS [.num n0, .num n1, .text n2] = num n0 ++ num n1 ++ (At.text n2).enc := by
    simp [encS, At.enc]
  rw [es] at hl ⊢
  simp only [List.length_append] at hl
  have HES := Lib.hid es
  obtain ⟨W, hW⟩ : ∃ W, W = w.alloc (.cells #[.int .i64 n0, .int .i64 n1, .string n2] 42) := ⟨_, rfl⟩
  have hbW : Below w.heap.size w W := by rw [hW]; exact (Below.refl _ _).alloc (Nat.le_refl _) _
  have hbk : W.heap[w.heap.size]? = some (.cells #[.int .i64 n0, .int .i64 n1, .string n2] 42 (0, 0)) := by rw [hW]; exact heap_alloc_new w _
  have c0 : W.cell? ⟨w.heap.size, 0, none⟩ = some (.int .i64 n0) := cell_blk hbk 0
  have c1 : W.cell? ⟨w.heap.size, 1, none⟩ = some (.int .i64 n1) := cell_blk hbk 1
  have c2 : W.cell? ⟨w.heap.size, 2, none⟩ = some (.string n2) := cell_blk hbk 2
  have HI0 := Lib.hid i0
  have HI1 := Lib.hid i1
  have s2 : n2.size ≤ 1000000000 := text_size (by omega)
  have hsum1 : ¬ 9223372036854775807 < (txt (num n0)).size + (txt (num n1)).size := by
    simp only [txt_size]
    omega
  have hsum2 : ¬ 9223372036854775807 < (txt (num n0)).size + (txt (num n1)).size + (txt ((At.text n2).enc)).size := by
    simp only [txt_size]
    omega
  have HK : Hid (∀ X, Below W.heap.size W X → X.cell? ⟨w.heap.size, 0, none⟩ = some (.int .i64 n0) ∧ X.cell? ⟨w.heap.size, 1, none⟩ = some (.int .i64 n1) ∧ X.cell? ⟨w.heap.size, 2, none⟩ = some (.string n2) ∧ Hid (Below W.heap.size W X)) := fun X q => ⟨cell_on q c0, cell_on q c1, cell_on q c2, Lib.hid q⟩
  have HW := Lib.hid hW
  have HBW := Lib.hid hbW
  clear hW hbW hbk es hl k0 hx_0 hv_0 l0 i0 k1 hx_1 hv_1 l1 i1 k2 hx_2 hv_2 l2 i2 hx0 hv0
  go_enter Try.func64, Try.ntmps64
  go_upto_region 1 with fail
  rw [← HW.out]
  go_region_held3 (fun X => X.cell? ⟨w.heap.size, 0, none⟩ = some (.int .i64 n0) ∧ X.cell? ⟨w.heap.size, 1, none⟩ = some (.int .i64 n1) ∧ X.cell? ⟨w.heap.size, 2, none⟩ = some (.string n2) ∧ Hid (Below W.heap.size W X)) (exact HK.out _ (by repeat (first | exact Below.refl _ _ | exact hx.out | apply bel_drew1 | apply bel_alloc))) (first
    | (go_at_call 38; refine (num_ref _ _ (by first | exact HI0.out | exact HI1.out)).mono ?_; rintro ee X ⟨rfl, hy⟩; have hx : Hid (Below W.heap.size W X) := bel_trans (by repeat (first | exact Below.refl _ _ | exact hx.out | apply bel_drew1 | apply bel_alloc)) hy)
    | (go_at_call 31; refine (text_ref _ _ (by assumption)).mono ?_; rintro ee X ⟨rfl, hy⟩; have hx : Hid (Below W.heap.size W X) := bel_trans (by repeat (first | exact Below.refl _ _ | exact hx.out | apply bel_drew1 | apply bel_alloc)) hy))
  all_goals
    go_wp2
    go_ret
    refine ⟨?_, bel_trans HBW.out hx.out⟩
    simp only [← txt_append]
    rfl
end Go.Proofs.Ytjhgmncmcklnkaa
