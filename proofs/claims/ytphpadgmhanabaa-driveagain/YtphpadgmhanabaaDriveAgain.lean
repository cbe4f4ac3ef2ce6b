/- The statement DriveAgain: what is left by a loss of power is left by the next one, too; with no condition. -/
import Derived.Test.YtphpadgmhanabaaLh
import Derived.Test.YtphpadgmhanabaaPc
import Derived.Test.YtphpadgmhanabaaPa
namespace Go.Proofs.Ytphpadgmhanabaa
open Go.ChangeShapes Go.WideShapes Go.ChangeAt Go.WideMaps Go.WideElems Go.RowKit
open Go.ChangeMaps (open_string)

set_option maxRecDepth 100000 in
theorem driveAgain_lifted (os : Os) (started : os.Started) (H : Type) (enc : TypeId × Value → H) :
    ReturnsInHanded {} Try.checked os 6 .any (Rows.driveAgainSpec.pre6 enc Try.prog Try.f6 Rows.driveAgainRow.domain false) (Rows.driveAgainSpec.post enc Try.prog Try.f6 false true false false) := by
  refine returnsInHanded_of_change_sized (C := Try.checked) own started (by kernel_rfl) Try.func6
    (ChangeSpec.witness6 (enc := enc) (C := Try.checked) false ⟨#[], #[.slice none 0 0, .slice none 0 0, .slice none 0 0], []⟩ 8 (by kernel_rfl) (by kernel_rfl) (by kernel_rfl) (by kernel_rfl)) ?_
  intro W base args ds gs before hval0 hW _ hsz0 _
  have hsz : (DataW.weightsEach Try.prog (Try.f6.params.toList ++ Rows.driveAgainSpec.plain.varTypes Try.prog) (ds ++ gs)).all (· ≤ reachBytes) = true := hsz0
  clear hsz0
  have hval : ∀ (j : Nat) t v, Try.f6.params[j]? = some t → args[j]? = some v → Value.okWide Try.prog W .any base t v := hval0
  have hW' := hW
  obtain ⟨p, q, hA0, hV, rfl, _, _⟩ := hW
  have hA : DataW.TrodAll enc Try.prog W 0 (fun _ => true) true Try.f6.params.toList args.toList ds p := hA0
  rw [Try.params6] at hA hval hsz
  obtain ⟨v0, v1, v2, d0, d1, d2, p0, p1, p2, rfl, rfl, rfl, h0, h1, h2⟩ := trodAll_three hA
  obtain ⟨rfl, rfl⟩ := trodVars_none hV
  have h0k := h0
  obtain ⟨L0, ad0, cap0, rfl, hL0, fL0⟩ := open_ops (hval 0 22 v0 rfl rfl) h0 (fun x hx => of_decide_eq_true (List.all_eq_true.1 hsz x (DataW.weights_mem_each (j := 0) (t := 22) rfl rfl x hx)))
  have h1k := h1
  obtain ⟨ks1, ad1, cap1, rfl, hI1, lc1, hd1⟩ := open_ints31 (hval 1 31 v1 rfl rfl) h1
  have h2k := h2
  obtain ⟨ks2, ad2, cap2, rfl, hI2, lc2, hd2⟩ := open_ints31 (hval 2 31 v2 rfl rfl) h2
  clear hA0 hval0
  simp only [List.append_nil] at hW'
  have hlt0 : ∀ x ∈ p0, x.block < W.heap.size := fun x hx => hW'.lt x (by simp [hx])
  have hlt1 : ∀ x ∈ p1, x.block < W.heap.size := fun x hx => hW'.lt x (by simp [hx])
  have hlt2 : ∀ x ∈ p2, x.block < W.heap.size := fun x hx => hW'.lt x (by simp [hx])
  have hz1 : ks1.length * 8 ≤ 140737488355328 := by
    rcases hd1 with ⟨_, hc⟩ | ⟨elems, spare, rfl, hc⟩
    · omega
    · have := sized_slice hsz (j := 1) (t := 31) (e := 3) rfl rfl Try.underlying31
      rw [bytes3] at this
      simp only [reachBytes] at this
      omega
  have hz2 : ks2.length * 8 ≤ 140737488355328 := by
    rcases hd2 with ⟨_, hc⟩ | ⟨elems, spare, rfl, hc⟩
    · omega
    · have := sized_slice hsz (j := 2) (t := 31) (e := 3) rfl rfl Try.underlying31
      rw [bytes3] at this
      simp only [reachBytes] at this
      omega
  clear hsz
  refine (again_law hL0 fL0 hI1 hI2 hz1 hz2).mono fun e W' ⟨he, hb⟩ => ?_
  subst he
  refine ⟨_, rfl, _, _, _, [], _, [], hW', ?_, trodAll_mk3 (again_ops h0k hb (hlt0)) (again_ints h1k hb (hlt1)) (again_ints h2k hb (hlt2)), rfl, hb.frame _, fun h => by cases h⟩
  exact trodAll_mk1 (shut_bool Try.underlying4 true)

theorem driveAgain_holds : Rows.DriveAgainSaid :=
  OpenClaim.holds_of_wide 6 Try.f6 rfl rfl rfl rfl rfl rfl rfl ⟨rfl, rfl, rfl, rfl, rfl⟩ rfl rfl rfl rfl rfl (by kernel_rfl) Try.func6 (by kernel_rfl)
    (of_decide_eq_true (by kernel_rfl)) (by unfold Func.isWrapper; rw [if_neg (of_decide_eq_false (by kernel_rfl))]; exact ⟨rfl, rfl⟩)
    (fun os started H enc _ => driveAgain_lifted os started H enc)
#print axioms driveAgain_holds
end Go.Proofs.Ytphpadgmhanabaa
