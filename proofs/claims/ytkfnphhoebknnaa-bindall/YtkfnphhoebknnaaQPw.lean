import Derived.Test.YtkfnphhoebknnaaQCk
namespace Go.Proofs.Ytkfnphhoebknnaa
open Go.RowKit Go.Maps
def v0 : Vl := ⟨0, 0, ⟨#[]⟩⟩
def exC : List Col := [⟨0, ⟨#[97]⟩, 1, 0, v0⟩, ⟨0, ⟨#[98]⟩, 2, 0, v0⟩]
def exD : Dd := ⟨1, ⟨#[116]⟩, ⟨#[]⟩, ⟨#[]⟩, ⟨#[]⟩, false, 0, v0, exC⟩
def awS0 : Sc := ⟨0, 0, []⟩
def awS1 : Sc := ⟨1, 3, [⟨1, ⟨#[116]⟩, [⟨2, ⟨#[97]⟩, 1, 3, v0⟩, ⟨3, ⟨#[98]⟩, 2, 3, v0⟩], [], []⟩]⟩
theorem aw1 : turnS awS0 exD 3 = .ok awS1 := by rfl
theorem tb_nil (X : World) : Lr tbE 5 X [] (.slice none 0 0) := ⟨none, 0, rfl, fun _ => rfl, Nat.le_refl _, Nat.zero_le _, fun i hi => absurd hi (by simp)⟩
theorem ex_cols {X : World} {F : Nat} (h : X.heap[F]? = some (.cells #[.int .i64 0, .string ⟨#[97]⟩, .int .i64 1, .int .i64 0, .int .i64 0, .int .i64 0, .string ⟨#[]⟩, .int .i64 0, .string ⟨#[98]⟩, .int .i64 2, .int .i64 0, .int .i64 0, .int .i64 0, .string ⟨#[]⟩] 65 (0, 0))) : Lr colE 7 X exC (.slice (some ⟨F, 0, none⟩) 2 2) :=
  ⟨some ⟨F, 0, none⟩, 2, rfl, (fun e => by cases e), Nat.le_refl _, (by unfold maxLen; omega), fun i hi => by
    have h0 : i = 0 ∨ i = 1 := by have : i < 2 := hi; omega
    rcases h0 with rfl | rfl
    · exact ⟨F, 0, colL ⟨0, ⟨#[97]⟩, 1, 0, v0⟩, rfl, blk_lt h, rfl, rfl, fun j u hu => by
        have hj : j < 7 := (List.getElem?_eq_some_iff.1 hu).1
        rw [show 0 + 0 * 7 + j = j from by omega, cell_blk h j]
        match j, hj, hu with
        | 0, _, hu => exact hu
        | 1, _, hu => exact hu
        | 2, _, hu => exact hu
        | 3, _, hu => exact hu
        | 4, _, hu => exact hu
        | 5, _, hu => exact hu
        | 6, _, hu => exact hu⟩
    · exact ⟨F, 0, colL ⟨0, ⟨#[98]⟩, 2, 0, v0⟩, rfl, blk_lt h, rfl, rfl, fun j u hu => by
        have hj : j < 7 := (List.getElem?_eq_some_iff.1 hu).1
        rw [show 0 + 1 * 7 + j = 7 + j from by omega, cell_blk h (7 + j)]
        match j, hj, hu with
        | 0, _, hu => exact hu
        | 1, _, hu => exact hu
        | 2, _, hu => exact hu
        | 3, _, hu => exact hu
        | 4, _, hu => exact hu
        | 5, _, hu => exact hu
        | 6, _, hu => exact hu⟩⟩
section
variable {w : World}
set_option maxHeartbeats 2000000 in
set_option maxRecDepth 100000 in
theorem example_any (w : World) : Calls Try.prog 15 #[] w fun e w' => ∃ F, e = .returned (.agg #[.int .i64 1, .string ⟨#[116]⟩, .string ⟨#[]⟩, .string ⟨#[]⟩, .string ⟨#[]⟩, .bool false, .int .i64 0, .int .i64 0, .int .i64 0, .string ⟨#[]⟩, .slice (some ⟨F, 0, none⟩) 2 2]) ∧ Lr colE 7 w' exC (.slice (some ⟨F, 0, none⟩) 2 2) ∧ Below w.heap.size w w' := by
  obtain ⟨W, hW⟩ : ∃ W, W = (w.alloc (.cells #[.int .i64 0, .string ⟨#[]⟩, .string ⟨#[]⟩, .string ⟨#[]⟩, .string ⟨#[]⟩, .bool false, .int .i64 0, .int .i64 0, .int .i64 0, .string ⟨#[]⟩, .slice none 0 0] 44)).alloc (.cells #[.int .i64 0, .string ⟨#[97]⟩, .int .i64 1, .int .i64 0, .int .i64 0, .int .i64 0, .string ⟨#[]⟩, .int .i64 0, .string ⟨#[98]⟩, .int .i64 2, .int .i64 0, .int .i64 0, .int .i64 0, .string ⟨#[]⟩] 65) := ⟨_, rfl⟩
  have hbW : Below w.heap.size w W := by rw [hW]; exact ((Below.refl _ w).alloc (Nat.le_refl _) _).alloc (by simp) _
  have jY0 : W.heap[w.heap.size]? = some (.cells #[.int .i64 0, .string ⟨#[]⟩, .string ⟨#[]⟩, .string ⟨#[]⟩, .string ⟨#[]⟩, .bool false, .int .i64 0, .int .i64 0, .int .i64 0, .string ⟨#[]⟩, .slice none 0 0] 44 (0, 0)) := by
    have := heap_alloc_new w (.cells #[.int .i64 0, .string ⟨#[]⟩, .string ⟨#[]⟩, .string ⟨#[]⟩, .string ⟨#[]⟩, .bool false, .int .i64 0, .int .i64 0, .int .i64 0, .string ⟨#[]⟩, .slice none 0 0] 44)
    rw [hW, Below.heap_alloc _ _ _ (by simp only [World.size_alloc]; omega)]
    exact this
  have jY1 : W.heap[w.heap.size + 1]? = some (.cells #[.int .i64 0, .string ⟨#[97]⟩, .int .i64 1, .int .i64 0, .int .i64 0, .int .i64 0, .string ⟨#[]⟩, .int .i64 0, .string ⟨#[98]⟩, .int .i64 2, .int .i64 0, .int .i64 0, .int .i64 0, .string ⟨#[]⟩] 65 (0, 0)) := by
    have := heap_alloc_new (w.alloc (.cells #[.int .i64 0, .string ⟨#[]⟩, .string ⟨#[]⟩, .string ⟨#[]⟩, .string ⟨#[]⟩, .bool false, .int .i64 0, .int .i64 0, .int .i64 0, .string ⟨#[]⟩, .slice none 0 0] 44)) (.cells #[.int .i64 0, .string ⟨#[97]⟩, .int .i64 1, .int .i64 0, .int .i64 0, .int .i64 0, .string ⟨#[]⟩, .int .i64 0, .string ⟨#[98]⟩, .int .i64 2, .int .i64 0, .int .i64 0, .int .i64 0, .string ⟨#[]⟩] 65)
    simp only [World.size_alloc] at this
    rw [hW]
    exact this
  obtain ⟨W3, e3, j3, f3⟩ := sets_row jY0 #[.int .i64 1, .string ⟨#[116]⟩, .string ⟨#[]⟩, .string ⟨#[]⟩, .string ⟨#[]⟩, .bool false, .int .i64 0, .int .i64 0, .int .i64 0, .string ⟨#[]⟩, .slice (some ⟨w.heap.size + 1, 0, none⟩) 2 2] rfl
  have hst : (Instr.storeAt 44 (.pointer (some ⟨w.heap.size, 0, none⟩)) (.agg #[.int .i64 1, .string ⟨#[116]⟩, .string ⟨#[]⟩, .string ⟨#[]⟩, .string ⟨#[]⟩, .bool false, .int .i64 0, .int .i64 0, .int .i64 0, .string ⟨#[]⟩, .slice (some ⟨w.heap.size + 1, 0, none⟩) 2 2])).run Try.prog ((w.alloc (.cells #[.int .i64 0, .string ⟨#[]⟩, .string ⟨#[]⟩, .string ⟨#[]⟩, .string ⟨#[]⟩, .bool false, .int .i64 0, .int .i64 0, .int .i64 0, .string ⟨#[]⟩, .slice none 0 0] 44)).alloc (.cells #[.int .i64 0, .string ⟨#[97]⟩, .int .i64 1, .int .i64 0, .int .i64 0, .int .i64 0, .string ⟨#[]⟩, .int .i64 0, .string ⟨#[98]⟩, .int .i64 2, .int .i64 0, .int .i64 0, .int .i64 0, .string ⟨#[]⟩] 65)) = .ok () W3 := by
    rw [e3, ← hW]
    exact store_row jY0 rfl size44 (by simp [Value.oneCell'])
  have J3 := Lib.hid j3
  have HF : Hid (Lr colE 7 W3 exC (.slice (some ⟨w.heap.size + 1, 0, none⟩) 2 2)) := Lib.hid (ex_cols ((f3.block _ (blk_lt jY1) (by omega)).trans jY1))
  have HB : Hid (Below w.heap.size w W3) := Lib.hid (hbW.trans (f3.toBelow (fun k hk q => by omega) hbW.size))
  clear hW hbW jY0 jY1 e3 j3 f3
  go_enter Try.func15, Try.ntmps15
  go_wp2_with (refine wpl_store _ _ rfl (by simp [Act.eval]) (by simp [Act.eval]) hst ?_)
  refine bodyPost_ret (results_one rfl rfl (load_var J3.out Try.underlying44 rfl size44)) rfl ?_
  exact ⟨_, rfl, HF.out, HB.out⟩
end
end Go.Proofs.Ytkfnphhoebknnaa
