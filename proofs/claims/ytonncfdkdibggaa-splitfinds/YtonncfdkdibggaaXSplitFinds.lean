/- Every key is found in the one shard that has it: the statement SplitFinds answers true at every list of bounds and every key; no condition. -/
import Derived.Test.YtonncfdkdibggaaPa
import Derived.Test.YtonncfdkdibggaaPa
namespace Go.Proofs.Ytonncfdkdibggaa
open Go.ChangeShapes Go.WideShapes Go.ChangeAt Go.WideMaps Go.WideElems Go.RowKit
open Go.ChangeMaps (open_string)

set_option maxRecDepth 100000 in
theorem splitFinds_lifted (os : Os) (started : os.Started) (H : Type) (enc : TypeId × Value → H) :
    ReturnsInHanded {} Try.checked os 4 .any (Rows.splitFindsSpec.pre6 enc Try.prog Try.f4 Rows.splitFindsRow.domain false) (Rows.splitFindsSpec.post enc Try.prog Try.f4 false true false false) := by
  refine returnsInHanded_of_change_sized (C := Try.checked) own started (by kernel_rfl) Try.func4
    (ChangeSpec.witness6 (enc := enc) (C := Try.checked) false ⟨#[], #[.slice none 0 0, .string ⟨#[]⟩], []⟩ 8 (by kernel_rfl) (by kernel_rfl) (by kernel_rfl) (by kernel_rfl)) ?_
  intro W base args ds gs before hval0 hW _ hsz0 _
  have hsz : (DataW.weightsEach Try.prog (Try.f4.params.toList ++ Rows.splitFindsSpec.plain.varTypes Try.prog) (ds ++ gs)).all (· ≤ reachBytes) = true := hsz0
  clear hsz0
  have hval : ∀ (j : Nat) t v, Try.f4.params[j]? = some t → args[j]? = some v → Value.okWide Try.prog W .any base t v := hval0
  have hW' := hW
  obtain ⟨p, q, hA0, hV, rfl, _, _⟩ := hW
  have hA : DataW.TrodAll enc Try.prog W 0 (fun _ => true) true Try.f4.params.toList args.toList ds p := hA0
  rw [Try.params4] at hA hval hsz
  obtain ⟨v0, v1, d0, d1, p0, p1, rfl, rfl, rfl, h0, h1⟩ := trodAll_two hA
  obtain ⟨rfl, rfl⟩ := trodVars_none hV
  have h0k := h0
  obtain ⟨L0, ad0, cap0, rfl, hL0, sL0, lc0, nz0, hd0⟩ := open_list (hval 0 22 v0 rfl rfl) h0
  have h1k := h1
  obtain ⟨t1, rfl, ht1⟩ : ∃ t : ByteArray, v1 = .string t ∧ t.size ≤ maxLen := by obtain ⟨t, e, _, _, ht⟩ := open_string Try.underlying9 (hval 1 9 v1 rfl rfl) h1; exact ⟨t, e, ht⟩
  clear hA0 hval0
  simp only [List.append_nil] at hW'
  have hlt0 : ∀ x ∈ p0, x.block < W.heap.size := fun x hx => hW'.lt x (by simp [hx])
  have hlt1 : ∀ x ∈ p1, x.block < W.heap.size := fun x hx => hW'.lt x (by simp [hx])
  have hreach0 : L0.length * 16 ≤ 140737488351232 := by
    rcases hd0 with ⟨_, hc⟩ | ⟨elems, spare, rfl, hc⟩
    · omega
    · have := sized_slice hsz (j := 0) (t := 22) (e := 9) rfl rfl Try.underlying22
      rw [bytes9] at this
      simp only [reachBytes] at this
      omega
  have hls0 : Ls W L0 (.slice ad0 L0.length cap0) := ⟨_, _, rfl, nz0, lc0, by
    rcases hd0 with ⟨_, hc⟩ | ⟨elems, spare, rfl, hc⟩
    · rw [hc]; exact Nat.zero_le _
    · have := sized_slice hsz (j := 0) (t := 22) (e := 9) rfl rfl Try.underlying22
      rw [bytes9] at this
      simp only [reachBytes] at this
      unfold maxLen
      omega, hL0⟩
  clear hsz
  refine (finds_law hls0 sL0 (by omega) ht1).mono fun e W' ⟨he, hb⟩ => ?_
  subst he
  refine ⟨_, rfl, _, _, _, [], _, [], hW', ?_, trodAll_mk2 (again_list h0k hb (hlt0)) (again_str h1k hb (hlt1)), rfl, hb.frame _, fun h => by cases h⟩
  exact trodAll_mk1 (shut_bool Try.underlying4 true)

theorem splitFinds_holds : Rows.SplitFindsSaid :=
  OpenClaim.holds_of_wide 4 Try.f4 rfl rfl rfl rfl rfl rfl rfl ⟨rfl, rfl, rfl, rfl, rfl⟩ rfl rfl rfl rfl rfl (by kernel_rfl) Try.func4 (by kernel_rfl)
    (of_decide_eq_true (by kernel_rfl)) (by unfold Func.isWrapper; rw [if_neg (of_decide_eq_false (by kernel_rfl))]; exact ⟨rfl, rfl⟩)
    (fun os started H enc _ => splitFinds_lifted os started H enc)
#print axioms splitFinds_holds
end Go.Proofs.Ytonncfdkdibggaa
