/- The document's tid. -/
import Derived.Test.YtjhgmncmcklnkaaVD
import Derived.Test.YtjhgmncmcklnkaaVMa
namespace Go.Proofs.Ytjhgmncmcklnkaa
open Go.RowKit

set_option maxHeartbeats 8000000 in
set_option maxRecDepth 100000 in
theorem tid_ref (w : World) {x : List At} {vs : List Value} (hx0 : hasS tidT x) (hv0 : valsS w NoS x vs) (hl : (encS x).length ≤ 1000000000) : Calls Try.prog 39 #[.agg vs.toArray] w fun e w' => e = .returned (.string (txt (encS x))) ∧ Below w.heap.size w w' := by
  obtain ⟨a0, x0, rfl, k0, hx_0⟩ := hasS_cons hx0
  obtain ⟨n0, rfl, i0⟩ := has_num k0
  obtain ⟨u0, r0, rfl, l0, hv_0⟩ := valsS_cons hv0
  obtain rfl := lies_num l0
  obtain ⟨a1, x1, rfl, k1, hx_1⟩ := hasS_cons hx_0
  obtain ⟨n1, rfl, i1⟩ := has_num k1
  obtain ⟨u1, r1, rfl, l1, hv_1⟩ := valsS_cons hv_0
  obtain rfl := lies_num l1
  obtain ⟨a2, x2, rfl, k2, hx_2⟩ := hasS_cons hx_1
  obtain ⟨n2, rfl, i2⟩ := has_num k2
  obtain ⟨u2, r2, rfl, l2, hv_2⟩ := valsS_cons hv_1
  obtain rfl := lies_num l2
  obtain rfl := hasS_end hx_2
  obtain rfl := valsS_end hv_2
  have es : encS [.num n0, .num n1, .num n2] = numsL [n0, n1, n2] := by
    simp [numsL, encS, At.enc]
  rw [es] at hl ⊢
  have HES := Lib.hid es
  obtain ⟨W, hW⟩ : ∃ W, W = w.alloc (.cells #[.int .i64 n0, .int .i64 n1, .int .i64 n2] 38) := ⟨_, rfl⟩
  have hbW : Below w.heap.size w W := by rw [hW]; exact (Below.refl _ _).alloc (Nat.le_refl _) _
  have hbk : W.heap[w.heap.size]? = some (.cells #[.int .i64 n0, .int .i64 n1, .int .i64 n2] 38 (0, 0)) := by rw [hW]; exact heap_alloc_new w _
  have c0 : W.cell? ⟨w.heap.size, 0, none⟩ = some (.int .i64 n0) := cell_blk hbk 0
  have c1 : W.cell? ⟨w.heap.size, 1, none⟩ = some (.int .i64 n1) := cell_blk hbk 1
  have c2 : W.cell? ⟨w.heap.size, 2, none⟩ = some (.int .i64 n2) := cell_blk hbk 2
  have MK1 : Hid (Mk #[.int .i64 n0, .int .i64 n1, .int .i64 n2] 3 [n0, n1, n2]) := by
    refine ⟨fun i h => ?_, rfl, by omega, ?_⟩
    · have : i = 0 ∨ i = 1 ∨ i = 2 := by simp at h; omega
      rcases this with rfl | rfl | rfl <;> rfl
    · intro n hn
      simp at hn
      rcases hn with rfl | rfl | rfl
      · exact i0
      · exact i1
      · exact i2
  have HK : Hid (∀ X, Below W.heap.size W X → X.cell? ⟨w.heap.size, 0, none⟩ = some (.int .i64 n0) ∧ X.cell? ⟨w.heap.size, 1, none⟩ = some (.int .i64 n1) ∧ X.cell? ⟨w.heap.size, 2, none⟩ = some (.int .i64 n2) ∧ Hid (Below W.heap.size W X)) := fun X q => ⟨cell_on q c0, cell_on q c1, cell_on q c2, Lib.hid q⟩
  have HW := Lib.hid hW
  have HBW := Lib.hid hbW
  clear hW hbW hbk es hl k0 hx_0 hv_0 l0 i0 k1 hx_1 hv_1 l1 i1 k2 hx_2 hv_2 l2 i2 hx0 hv0
  go_enter Try.func39, Try.ntmps39
  go_upto_region 1 with fail
  rw [← HW.out]
  go_wp2_with (first
    | (go_at_call 28; refine Calls.mono (nums_gen (ns := [n0, n1, n2]) _ ?_) ?_; (focus ((repeat (first | ((with_reducible refine IntsK.new MK1.out ?_) <;> simp) | (with_reducible apply IntsK.drew) | (with_reducible apply IntsK.alloc) | (with_reducible refine IntsK.onN (by assumption) (by simp) ?_))); done)); rintro ee X ⟨rfl, hy⟩; have hx : Hid (Below W.heap.size W X) := bel_trans (by repeat (first | exact Below.refl _ _ | exact hx.out | apply bel_drew1 | apply bel_alloc)) hy; refine Hid.out ?_))
  refine Lib.hid ?_
  go_wp2
  go_ret
  exact ⟨rfl, bel_trans HBW.out hx.out⟩
end Go.Proofs.Ytjhgmncmcklnkaa
