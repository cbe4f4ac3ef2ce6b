/- The statement ClocksFair: where all clocks tick by turns, one by one, none of them is ever held back, once they stand together; with no condition. -/
import Derived.Test.YtjnkfnohnibgiaaCi
import Derived.Test.YtjnkfnohnibgiaaPa
namespace Go.Proofs.Ytjnkfnohnibgiaa
open Go.ChangeShapes Go.WideShapes Go.ChangeAt Go.WideMaps Go.WideElems Go.RowKit
open Go.ChangeMaps (open_string)

set_option maxRecDepth 100000 in
theorem clocksFair_lifted (os : Os) (started : os.Started) (H : Type) (enc : TypeId × Value → H) :
    ReturnsInHanded {} Try.checked os 5 .any (Rows.clocksFairSpec.pre6 enc Try.prog Try.f5 Rows.clocksFairRow.domain false) (Rows.clocksFairSpec.post enc Try.prog Try.f5 false true false false) := by
  refine returnsInHanded_of_change_sized (C := Try.checked) own started (by kernel_rfl) Try.func5
    (ChangeSpec.witness6 (enc := enc) (C := Try.checked) false ⟨#[], #[.int .i64 0, .int .i64 0, .slice none 0 0, .int .i64 0], []⟩ 8 (by kernel_rfl) (by kernel_rfl) (by kernel_rfl) (by kernel_rfl)) ?_
  intro W base args ds gs before hval0 hW _ hsz0 _
  have hsz : (DataW.weightsEach Try.prog (Try.f5.params.toList ++ Rows.clocksFairSpec.plain.varTypes Try.prog) (ds ++ gs)).all (· ≤ reachBytes) = true := hsz0
  clear hsz0
  have hval : ∀ (j : Nat) t v, Try.f5.params[j]? = some t → args[j]? = some v → Value.okWide Try.prog W .any base t v := hval0
  have hW' := hW
  obtain ⟨p, q, hA0, hV, rfl, _, _⟩ := hW
  have hA : DataW.TrodAll enc Try.prog W 0 (fun _ => true) true Try.f5.params.toList args.toList ds p := hA0
  rw [Try.params5] at hA hval hsz
  obtain ⟨v0, v1, v2, v3, d0, d1, d2, d3, p0, p1, p2, p3, rfl, rfl, rfl, h0, h1, h2, h3⟩ := trodAll_four hA
  obtain ⟨rfl, rfl⟩ := trodVars_none hV
  have h0k := h0
  obtain ⟨n0, rfl⟩ : ∃ n : Int, v0 = .int .i64 n := by obtain ⟨n, e, _⟩ := open_int Try.underlying3 (hval 0 3 v0 rfl rfl) h0; exact ⟨n, e⟩
  have h1k := h1
  obtain ⟨n1, rfl⟩ : ∃ n : Int, v1 = .int .i64 n := by obtain ⟨n, e, _⟩ := open_int Try.underlying3 (hval 1 3 v1 rfl rfl) h1; exact ⟨n, e⟩
  have h2k := h2
  obtain ⟨L2, ad2, cap2, rfl, hL2, hB2⟩ := open_pairs (hval 2 22 v2 rfl rfl) h2
  have h3k := h3
  obtain ⟨n3, rfl⟩ : ∃ n : Int, v3 = .int .i64 n := by obtain ⟨n, e, _⟩ := open_int Try.underlying3 (hval 3 3 v3 rfl rfl) h3; exact ⟨n, e⟩
  clear hA0 hval0
  simp only [List.append_nil] at hW'
  have hlt0 : ∀ x ∈ p0, x.block < W.heap.size := fun x hx => hW'.lt x (by simp [hx])
  have hlt1 : ∀ x ∈ p1, x.block < W.heap.size := fun x hx => hW'.lt x (by simp [hx])
  have hlt2 : ∀ x ∈ p2, x.block < W.heap.size := fun x hx => hW'.lt x (by simp [hx])
  have hlt3 : ∀ x ∈ p3, x.block < W.heap.size := fun x hx => hW'.lt x (by simp [hx])
  clear hsz
  refine (fair_law hL2).mono fun e W' ⟨he, hb⟩ => ?_
  subst he
  refine ⟨_, rfl, _, _, _, [], _, [], hW', ?_, trodAll_mk4 (again_int h0k hb (hlt0)) (again_int h1k hb (hlt1)) (again_pairs h2k hb (hlt2)) (again_int h3k hb (hlt3)), rfl, hb.frame _, fun h => by cases h⟩
  exact trodAll_mk1 (shut_bool Try.underlying4 true)

theorem clocksFair_holds : Rows.ClocksFairSaid :=
  OpenClaim.holds_of_wide 5 Try.f5 rfl rfl rfl rfl rfl rfl rfl ⟨rfl, rfl, rfl, rfl, rfl⟩ rfl rfl rfl rfl rfl (by kernel_rfl) Try.func5 (by kernel_rfl)
    (of_decide_eq_true (by kernel_rfl)) (by unfold Func.isWrapper; rw [if_neg (of_decide_eq_false (by kernel_rfl))]; exact ⟨rfl, rfl⟩)
    (fun os started H enc _ => clocksFair_lifted os started H enc)
#print axioms clocksFair_holds
end Go.Proofs.Ytjnkfnohnibgiaa
