/- New; a store that is none; the walks of awake and of VersionNil. -/
import Derived.Test.YtcoaahlakkghhaaVo
namespace Go.Proofs.Ytcoaahlakkghhaa
open Go.RowKit

section
variable {w w' W V X : World} {A : Nat} {S T : Nat → Prop} {R : List Rw} {k : ByteArray} {v : Ve}
theorem put_b (h : Sb w A S R) (k : ByteArray) (v : Ve) (hfew : R.length < 800000) (hless : ∀ r ∈ R, r.list.length < 800000) : Calls Try.prog 92 #[.pointer (some ⟨A, 0, none⟩), .string k, veV v] w fun e w' => PutAns w A S R k v e w' := by
  obtain ⟨G, rv, h, rfl⟩ := h
  rw [List.length_map] at hfew
  exact put_any h k v hfew (fun g hg => hless _ (List.mem_map_of_mem hg))
theorem span_b (h : Sb w A S R) (x y : ByteArray) (t : Int) : Calls Try.prog 49 #[.pointer (some ⟨A, 0, none⟩), .agg #[.string x, .string y], .int .i64 t] w fun e w' => SpanAns w (span R x y t) e w' := by
  obtain ⟨G, rv, h, rfl⟩ := h
  exact span_any h x y t
theorem rows_b (h : Sb w A S R) : Calls Try.prog 35 #[.pointer (some ⟨A, 0, none⟩)] w fun e w' => RowsAns w R e w' := by
  obtain ⟨G, rv, h, rfl⟩ := h
  exact rows_any h
theorem new_any (w : World) : Calls Try.prog 26 #[] w fun e w' => e = .returned (.pointer (some ⟨w.heap.size, 0, none⟩)) ∧ Sb w' w.heap.size (fun k => k = w.heap.size) [] ∧ Below w.heap.size w w' := by
  have hP : Sb (w.alloc (.cells #[.slice none 0 0] 116)) w.heap.size (fun k => k = w.heap.size) [] := by
    refine ⟨[], .slice none 0 0, ⟨heap_alloc_new w _, World.ownsRow_nil _ _ _ _, fun g hg => (by cases hg), fun g hg => (by cases hg), List.Pairwise.nil, rfl, fun k e => (by cases e), fun g hg => (by cases hg), fun g hg => (by cases hg), fun k e => ?_, Nat.zero_le _, fun g hg => (by cases hg), ⟨List.Pairwise.nil, fun r hr => by cases hr⟩⟩, rfl⟩
    rw [show k = w.heap.size from e]
    simp
  have HP := Lib.hid hP
  clear hP
  go_enter Try.func26, Try.ntmps26
  go_wp2
  go_ret
  exact ⟨rfl, HP.out, (Below.refl _ _).alloc (Nat.le_refl _) _⟩
theorem put_nil (w : World) (k : ByteArray) (v : Ve) : Calls Try.prog 92 #[.pointer none, .string k, veV v] w fun e w' => e = .returned (.int .i64 2) ∧ Below w.heap.size w w' := by
  go_enter Try.func92, Try.ntmps92
  go_wp2
  go_ret
  exact ⟨rfl, (Below.refl _ _).alloc (Nat.le_refl _) _⟩
theorem span_nil (w : World) (x y : ByteArray) (t : Int) : Calls Try.prog 49 #[.pointer none, .agg #[.string x, .string y], .int .i64 t] w fun e w' => e = .returned (.slice none 0 0) ∧ Below w.heap.size w w' := by
  go_enter Try.func49, Try.ntmps49
  go_wp2
  refine bodyPost_ret (v := .slice none 0 0) (by simp [results, Try.results49, go_sem]) rfl ?_
  exact ⟨rfl, (Below.refl _ _).alloc (Nat.le_refl _) _⟩
theorem rows_nil (w : World) : Calls Try.prog 35 #[.pointer none] w fun e w' => e = .returned (.slice none 0 0) ∧ w' = w := by
  go_enter Try.func35, Try.ntmps35
  go_wp2
  refine bodyPost_ret (v := .slice none 0 0) (by simp [results, Try.results35, go_sem]) rfl ?_
  exact ⟨rfl, rfl⟩
theorem Sb.step {S' : Nat → Prop} (hlo : ∀ k, S k → w.heap.size ≤ k) (hb : Below w.heap.size w V) (hs : ∀ j, S' j → Gro S V W j) (hf : Fr V W S) : (∀ k, S' k → w.heap.size ≤ k) ∧ Below w.heap.size w W :=
  ⟨fun k q => gro_fresh hlo hb.size k (hs k q), fr_below hlo hb hf⟩
end
end Go.Proofs.Ytcoaahlakkghhaa
