/- Insert behind all; a shard's part. -/
import Derived.Test.YtfokgalgdlajlaaCq
namespace Go.Proofs.Ytfokgalgdlajlaa
open Go.RowKit
section
variable {w : World}
set_option maxHeartbeats 4000000 in
set_option maxRecDepth 100000 in
theorem insert_end {B b c : Nat} {L : List Gp} {v : Value} {g : Gp} (h : w.ownsRow B 84 3 v L.length (L.flatMap gpL)) (hB : B ≤ w.heap.size) (hb : w.heap[b]? = some (.cells (gpA g) 84 (0, 0))) (hz : L.length ≤ 900000) : Calls Try.prog 42 #[v, .int .i64 (L.length : Int), .slice (some ⟨b, 0, none⟩) 1 c] w fun e w' => ∃ ad cap, e = .returned (.slice ad (L.length + 1) cap) ∧ w'.ownsRow B 84 3 (.slice ad (L.length + 1) cap) (L.length + 1) ((L ++ [g]).flatMap gpL) ∧ Fr w w' (fun k => v.ownBlock = some k) := by
  obtain ⟨va, vc, rfl⟩ := own_shape h
  obtain ⟨sv, hsl⟩ : ∃ sv, ∀ X : World, (Instr.sliceAt 79 (.slice va L.length vc) (some (.int .i64 (L.length : Int))) none none).run Try.prog X = .ok sv X := by
    rcases h.2 with ⟨q, q0⟩ | ⟨g9, cap, cur, q, _, _, h1, h2, _⟩
    · obtain ⟨rfl, rfl⟩ : va = none ∧ vc = 0 := by injection q with q1 q2 q3; exact ⟨q1, q3⟩
      rw [q0]
      exact ⟨.slice none 0 0, fun X => by go_simp⟩
    · cases q
      by_cases hv : vc = L.length
      · exact ⟨.slice (some ⟨g9, 0, none⟩) 0 (vc - L.length), fun X => by
          go_simp⟩
      · exact ⟨.slice (some ⟨g9, L.length * 3, none⟩) 0 (vc - L.length), fun X => by
          go_simp⟩
  have hmx : (L.length : Int) ≤ 9223372036854775807 := by omega
  obtain ⟨ad, cap, w', hrun, ho, hg, _⟩ := run_gp (m := 1) (c := c) (news := gpL g) h hB (.inr ⟨⟨b, 0, none⟩, rfl, rfl, fun j u hu => by
    rw [add_at, Nat.zero_add, cell_blk hb, ← hu]
    exact (Array.getElem?_toList (xs := gpA g) (i := j)).symm⟩) (by
    intro u hu
    have h9 := gp_one [g] u (by simpa using hu)
    exact h9) (by omega)
  have hf : Fr w w' (fun k => (Value.slice va L.length vc).ownBlock = some k) := Fr.grown (Fr.refl w _) hg (fun k hk => .inl hk)
  have HF := Lib.hid hf
  have HS := Lib.hid hsl
  have HO := Lib.hid ho
  have HRUN := Lib.hid hrun
  clear h hB hb hz hf hsl ho hg hrun
  go_enter Try.func42, Try.ntmps42
  go_wp2_with (first | (refine wpl_slice_lo _ _ rfl (by first | rfl | simp [Act.eval]) (by first | rfl | simp [Act.eval]) (HS.out _) ?_) | (at_builtin; refine wpl_run2 _ _ rfl (by simp [Act.eval]) (by simp [Act.eval]) HRUN.out ?_))
  refine bodyPost_ret (v := .slice ad (L.length + 1) cap) (by simp [results, Try.results42, go_sem]) rfl ?_
  exact ⟨ad, cap, rfl, by rw [List.flatMap_append]; exact HO.out, HF.out⟩
end
end Go.Proofs.Ytfokgalgdlajlaa
